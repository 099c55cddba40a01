import Derived.Test.YtmihlihlpdkdcaaGreatK12
import Derived.Test.YtmihlihlpdkdcaaGreatK13
import Derived.Test.YtmihlihlpdkdcaaGreatQ08
import Derived.Test.YtmihlihlpdkdcaaGreatK11
import Derived.Laws.Cover3
namespace Go.Proofs.YtmihlihlpdkdcaaGreat
open Go.RowKit
set_option maxRecDepth 200000
set_option maxHeartbeats 64000000
section
@[local go_sem] theorem yyw (r : Rt) : ({ epoch := zcc.epoch, root := r } : Ck) = ⟨0, r⟩ := rfl
theorem zc6 : ∀ args w, (callFunc 34 args).run Tryz.prog w = .ok (.enter 34 args) w := zbb Tryz.func34 (by kernel_rfl) (by kernel_rfl)
theorem z08 (r : Rt) (pb : Option Addr) (nb cb : Nat) (bal : List UInt64) (w : World) (h : SlE Enum w (.slice pb nb cb) bal) (hl : bal.length = nb) (hn : nb ≤ 1000) :
  Calls Tryz.prog 11 #[.agg (rc r), .slice pb nb cb] w (EgOk (if mayB bal = true then newG r bal else yag) (mayB bal) w) := by
 obtain ⟨W0, hW0⟩ : ∃ W0, W0 = (w.alloc (.cells (rc r) 23)).alloc (.cells (en zen) 39) := ⟨_, rfl⟩
 obtain ⟨hB, q0, q1, hz⟩ := zd0 w _ _ _ _ W0 hW0
 have MR : Hid (W0.heap[w.heap.size]? = some (.cells (rc r) 23 (0, 0))) := q0
 have ME : Hid (W0.heap[w.heap.size + 1]? = some (.cells (en zen) 39 (0, 0))) := q1
 have KB := Lib.hid (zac hB h)
 have A0 := Lib.hid hB
 have HW := Lib.hid hW0
 have HL := Lib.hid hl
 have HN := Lib.hid hn
 have HMy := Lib.hid (fun W hh => zq0 (.slice pb nb cb) bal W hh)
 obtain ⟨may, hmay⟩ : ∃ m, m = mayB bal := ⟨_, rfl⟩
 rw [← hmay] at HMy ⊢
 obtain ⟨GE, hGr⟩ : ∃ G, G = (if may = true then newG r bal else yag) := ⟨_, rfl⟩
 rw [← hGr]
 have HG0 : Hid (may = false → GE = yag) := fun e => by rw [hGr, e]; rfl
 have HG1 : Hid (may = true → GE = newG r bal) := fun e => by rw [hGr, e]; rfl
 clear hW0 hB q0 q1 hz h hl hn hmay hGr
 go_enter Tryz.func11, Tryz.ntmps11
 go_upto_region 1 with fail
 rw [← HW.out]
 go_wp2_with fail
 refine (HMy.out _ KB.out).mono ?_
 rintro e w1 ⟨rfl, g⟩
 replace MR := Lib.hid (zab g MR.out)
 replace ME := Lib.hid (zab g ME.out)
 replace KB := Lib.hid (zac g KB.out)
 replace A0 := Lib.hid (zad A0.out g)
 clear g HMy
 cases may
 ·
  have HG := Lib.hid (HG0.out rfl)
  clear HG0 HG1
  have ye := za8 ME.out (zas _)
  go_wp2_with fail
  exact bodyPost_ret (v := .tuple #[.agg (en zen), .bool false]) (zal Tryz.isAgg39 Tryz.sizeOf39 _ 4 5 rfl _ _ _ _ _ rfl rfl (zaf (by rw [zbu ME.out (by rw [zas]; decide)]; congr 2; exact zh6 rfl) (zas _))) rfl ⟨zen, rfl, by rw [HG.out]; exact yfy _, zav A0.out (by omega)⟩
 ·
  have HG := Lib.hid (HG1.out rfl)
  clear HG0 HG1
  have zr := zaf MR.out (zar _)
  go_wp2_with fail
  refine (yr8 r 0 _).mono ?_
  rintro e w2 ⟨s1, rfl, h1, g⟩
  rw [show newL r 0 = [⟨r, -1, 0, 0⟩] by unfold newL; rw [if_pos (show yds 0 = true from rfl)]; rfl] at h1
  have gg := zad g (below1 (o := .cells (tr ⟨s1⟩) 28))
  replace MR := Lib.hid (zab gg MR.out)
  replace ME := Lib.hid (zab gg ME.out)
  replace KB := Lib.hid (zac gg KB.out)
  replace A0 := Lib.hid (zad A0.out gg)
  have MT : Hid ((w2.alloc (.cells (tr ⟨s1⟩) 28)).heap[w2.heap.size]? = some (.cells (tr ⟨s1⟩) 28 (0, 0))) := heap_alloc_last w2 _
  have K1 := Lib.hid (zac (below1 (o := .cells (tr ⟨s1⟩) 28)) h1)
  clear g gg h1 zr
  go_wp2_with fail
  have H12 := Lib.hid (ye9 (bal.length : Int))
  rw [HL.out] at H12
  refine (H12.out _).mono ?_
  rintro e w3 ⟨s2, rfl, h2, g⟩
  rw [← HL.out] at h2
  have gg := zad g (below1 (o := .cells (vo ⟨s2, (newV (nb : Int)).out⟩) 32))
  replace MR := Lib.hid (zab gg MR.out)
  replace ME := Lib.hid (zab gg ME.out)
  replace KB := Lib.hid (zac gg KB.out)
  replace A0 := Lib.hid (zad A0.out gg)
  replace MT := Lib.hid (zab gg MT.out)
  replace K1 := Lib.hid (zac gg K1.out)
  have MV : Hid ((w3.alloc (.cells (vo ⟨s2, (newV (nb : Int)).out⟩) 32)).heap[w3.heap.size]? = some (.cells (vo ⟨s2, (newV (nb : Int)).out⟩) 32 (0, 0))) := heap_alloc_last w3 _
  have K2 := Lib.hid (zac (below1 (o := .cells (vo ⟨s2, (newV (nb : Int)).out⟩) 32)) h2)
  clear g gg h2 H12
  have hz3 : (w3.alloc (.cells (vo ⟨s2, (newV (nb : Int)).out⟩) 32)).heap.size = w3.heap.size + 1 := by simp
  have zr := zaf MR.out (zar _)
  go_upto_region 6 with fail
  generalize w3.alloc (.cells (vo ⟨s2, (newV (nb : Int)).out⟩) 32) = w4 at *
  obtain ⟨W7, hW7⟩ : ∃ W, W = w4.alloc (.cells (cc ⟨0, r⟩) 37) := ⟨_, rfl⟩
  have g7 : Below w4.heap.size w4 W7 := by rw [hW7]; exact below1
  have MC : Hid (W7.heap[w3.heap.size + 1]? = some (.cells (cc ⟨0, r⟩) 37 (0, 0))) := by show _ = _; rw [hW7, ← hz3]; exact heap_alloc_last w4 _
  replace ME := Lib.hid (zab g7 ME.out)
  replace KB := Lib.hid (zac g7 KB.out)
  replace A0 := Lib.hid (zad A0.out g7)
  replace MT := Lib.hid (zab g7 MT.out)
  replace K1 := Lib.hid (zac g7 K1.out)
  replace MV := Lib.hid (zab g7 MV.out)
  replace K2 := Lib.hid (zac g7 K2.out)
  have HLt : Hid (w.heap.size + 1 < W7.heap.size) := (Array.getElem?_eq_some_iff.1 ME.out).1
  rw [← hW7]
  clear hW7 g7 zr hz3 MR
  have zt := (za2 MT.out).2.1
  have zv := (zbn MV.out).2.2.1
  have zc := zaf MC.out (za1 _)
  have hwB : w.heap.size + 1 ≤ W7.drew.heap.size := Nat.le_of_lt HLt.out
  have Q0 := fun p : Wd W7.drew => zb8 zt (by decide) p
  have Q1 := fun p : Wd W7.drew => zb8 zv (by decide) p
  have Q2 := fun p : Wd W7.drew => zb8 zc (by decide) p
  clear zt zv zc
  refine zl2 (w.heap.size + 1) [0, 3, 5, 7] [2, 4, 6, 9] (by kernel_rfl) ?_
  refine GX.take1 0 rfl rfl rfl (by kernel_rfl) (by kernel_rfl) (by kernel_rfl) rfl hwB ?_
  (first | go_big_quiet_step (fail) | quiet_step (fail)); refine wpQuiet_nil ?_
  refine GX.take2 1 rfl rfl rfl (by kernel_rfl) (by kernel_rfl) (by kernel_rfl) rfl hwB ?_
  (first | go_big_quiet_step (fail) | quiet_step (fail)); refine wpQuiet_nil ?_
  refine GX.take1 3 rfl rfl rfl (by kernel_rfl) (by kernel_rfl) (by kernel_rfl) rfl hwB ?_
  (first | go_big_quiet_step (fail) | quiet_step (fail)); refine wpQuiet_nil ?_
  refine GX.take1 5 rfl rfl rfl (by kernel_rfl) (by kernel_rfl) (by kernel_rfl) rfl hwB ?_
  (first | go_big_quiet_step (fail) | quiet_step (fail)); refine wpQuiet_nil ?_
  refine GX.take1 7 rfl rfl rfl (by kernel_rfl) (by kernel_rfl) (by kernel_rfl) rfl hwB ?_
  (first | go_big_quiet_step (fail) | quiet_step (fail)); refine wpQuiet_nil ?_
  have D0 : Below W7.heap.size W7 W7.drew := zap (Below.refl _ _) 1
  refine GX.branch3 2 4 6 (by kernel_rfl) ?o2 ?o4 ?o6
  case' o2 =>
   refine zfo rfl rfl rfl rfl zc6 #[.slice pb nb cb] rfl ?_
   refine (zgb (.slice pb nb cb) bal W7.drew (zac D0 KB.out) (by have := HL.out; have := HN.out; omega)).mono ?_
   rintro e xa ⟨va, rfl, oa, ga⟩
   refine ⟨_, rfl, ga, ?_⟩
   simp only [Act.put, List.setIfInBounds_toArray, List.set_cons_zero, List.set_cons_succ]
   obtain ⟨⟨pa, na, ca⟩, rfl⟩ : ∃ s : SlV, va = sv s := by obtain ⟨p, c, rfl, _⟩ := zaj (zak oa); exact ⟨⟨p, _, c⟩, (zat _ _ _).symm⟩
   rw [zat] at oa ⊢
   have la : w.heap.size + 1 < W7.drew.heap.size := Nat.lt_of_lt_of_le HLt.out D0.size
   have ea : Value.ownBlock (.slice pa na ca) ≠ some (w.heap.size + 1) := zty oa la
   have ka := zak oa
   clear oa la
   have Da := zad D0 ga
   clear ga
   refine GX.branch2 4 6 (by kernel_rfl) ?o2_4 ?o2_6
   case' o2_4 =>
    refine zef rfl rfl rfl (.slice (some ⟨xa.heap.size, 0, none⟩) 1 1) (xa.alloc (.cells #[.int .u64 0] 30)) (by go_simp) (zcw below1) ?_
    simp only [Act.put, List.setIfInBounds_toArray, List.set_cons_zero, List.set_cons_succ]
    have kb : SlE Enum (xa.alloc (.cells #[.int .u64 0] 30)) (.slice (some ⟨xa.heap.size, 0, none⟩) 1 1) [0] := zmk xa (v := 0) (by decide) _ rfl
    have eb : Value.ownBlock (.slice (some ⟨xa.heap.size, 0, none⟩) 1 1) ≠ some (w.heap.size + 1) := zcu (by have := Nat.lt_of_lt_of_le HLt.out Da.size; omega)
    have gb : Below xa.heap.size xa (xa.alloc (.cells #[.int .u64 0] 30)) := below1
    generalize xa.alloc (.cells #[.int .u64 0] 30) = xb at *
    obtain ⟨Tb, hTb⟩ : ∃ T, T = xa.heap.size := ⟨_, rfl⟩
    rw [← hTb] at kb eb ⊢
    clear hTb
    replace ka := zac gb ka
    have Db := zad Da gb
    clear gb
    refine GX.branch1 6 (by kernel_rfl) ?_
    refine zef rfl rfl rfl (.slice (some ⟨xb.heap.size, 0, none⟩) 1 1) (xb.alloc (.cells (cc ⟨0, r⟩) 37)) (by go_simp) (zcw below1) ?_
    simp only [Act.put, List.setIfInBounds_toArray, List.set_cons_zero, List.set_cons_succ]
    have kc : SlE Ecc (xb.alloc (.cells (cc ⟨0, r⟩) 37)) (.slice (some ⟨xb.heap.size, 0, none⟩) 1 1) [⟨0, r⟩] := zl5 xb ⟨0, r⟩ _ rfl
    have ec : Value.ownBlock (.slice (some ⟨xb.heap.size, 0, none⟩) 1 1) ≠ some (w.heap.size + 1) := zcu (by have := Nat.lt_of_lt_of_le HLt.out Db.size; omega)
    have gc : Below xb.heap.size xb (xb.alloc (.cells (cc ⟨0, r⟩) 37)) := below1
    generalize xb.alloc (.cells (cc ⟨0, r⟩) 37) = xc at *
    obtain ⟨Tc, hTc⟩ : ∃ T, T = xb.heap.size := ⟨_, rfl⟩
    rw [← hTc] at kc ec ⊢
    clear hTc
    replace ka := zac gc ka
    replace kb := zac gc kb
    have Dc := zad Db gc
    clear gc
    obtain ⟨xz, hxz⟩ : ∃ X, X = xc := ⟨_, rfl⟩
    rw [← hxz]
    have Dz : Below W7.heap.size W7 xz := by rw [hxz]; exact Dc
    rw [← hxz] at ka
    rw [← hxz] at kb
    rw [← hxz] at kc
    clear hxz Da Db Dc
   case' o2_6 =>
    refine zef rfl rfl rfl (.slice (some ⟨xa.heap.size, 0, none⟩) 1 1) (xa.alloc (.cells (cc ⟨0, r⟩) 37)) (by go_simp) (zcw below1) ?_
    simp only [Act.put, List.setIfInBounds_toArray, List.set_cons_zero, List.set_cons_succ]
    have kc : SlE Ecc (xa.alloc (.cells (cc ⟨0, r⟩) 37)) (.slice (some ⟨xa.heap.size, 0, none⟩) 1 1) [⟨0, r⟩] := zl5 xa ⟨0, r⟩ _ rfl
    have ec : Value.ownBlock (.slice (some ⟨xa.heap.size, 0, none⟩) 1 1) ≠ some (w.heap.size + 1) := zcu (by have := Nat.lt_of_lt_of_le HLt.out Da.size; omega)
    have gc : Below xa.heap.size xa (xa.alloc (.cells (cc ⟨0, r⟩) 37)) := below1
    generalize xa.alloc (.cells (cc ⟨0, r⟩) 37) = xc at *
    obtain ⟨Tc, hTc⟩ : ∃ T, T = xa.heap.size := ⟨_, rfl⟩
    rw [← hTc] at kc ec ⊢
    clear hTc
    replace ka := zac gc ka
    have Dc := zad Da gc
    clear gc
    refine GX.branch1 4 (by kernel_rfl) ?_
    refine zef rfl rfl rfl (.slice (some ⟨xc.heap.size, 0, none⟩) 1 1) (xc.alloc (.cells #[.int .u64 0] 30)) (by go_simp) (zcw below1) ?_
    simp only [Act.put, List.setIfInBounds_toArray, List.set_cons_zero, List.set_cons_succ]
    have kb : SlE Enum (xc.alloc (.cells #[.int .u64 0] 30)) (.slice (some ⟨xc.heap.size, 0, none⟩) 1 1) [0] := zmk xc (v := 0) (by decide) _ rfl
    have eb : Value.ownBlock (.slice (some ⟨xc.heap.size, 0, none⟩) 1 1) ≠ some (w.heap.size + 1) := zcu (by have := Nat.lt_of_lt_of_le HLt.out Dc.size; omega)
    have gb : Below xc.heap.size xc (xc.alloc (.cells #[.int .u64 0] 30)) := below1
    generalize xc.alloc (.cells #[.int .u64 0] 30) = xb at *
    obtain ⟨Tb, hTb⟩ : ∃ T, T = xc.heap.size := ⟨_, rfl⟩
    rw [← hTb] at kb eb ⊢
    clear hTb
    replace ka := zac gb ka
    replace kc := zac gb kc
    have Db := zad Dc gb
    clear gb
    obtain ⟨xz, hxz⟩ : ∃ X, X = xb := ⟨_, rfl⟩
    rw [← hxz]
    have Dz : Below W7.heap.size W7 xz := by rw [hxz]; exact Db
    rw [← hxz] at ka
    rw [← hxz] at kc
    rw [← hxz] at kb
    clear hxz Da Dc Db
  case' o4 =>
   refine zef rfl rfl rfl (.slice (some ⟨W7.drew.heap.size, 0, none⟩) 1 1) (W7.drew.alloc (.cells #[.int .u64 0] 30)) (by go_simp) (zcw below1) ?_
   simp only [Act.put, List.setIfInBounds_toArray, List.set_cons_zero, List.set_cons_succ]
   have kb : SlE Enum (W7.drew.alloc (.cells #[.int .u64 0] 30)) (.slice (some ⟨W7.drew.heap.size, 0, none⟩) 1 1) [0] := zmk W7.drew (v := 0) (by decide) _ rfl
   have eb : Value.ownBlock (.slice (some ⟨W7.drew.heap.size, 0, none⟩) 1 1) ≠ some (w.heap.size + 1) := zcu (by have := Nat.lt_of_lt_of_le HLt.out D0.size; omega)
   have gb : Below W7.drew.heap.size W7.drew (W7.drew.alloc (.cells #[.int .u64 0] 30)) := below1
   generalize W7.drew.alloc (.cells #[.int .u64 0] 30) = xb at *
   obtain ⟨Tb, hTb⟩ : ∃ T, T = W7.drew.heap.size := ⟨_, rfl⟩
   rw [← hTb] at kb eb ⊢
   clear hTb
   have Db := zad D0 gb
   clear gb
   refine GX.branch2 2 6 (by kernel_rfl) ?o4_2 ?o4_6
   case' o4_2 =>
    refine zfo rfl rfl rfl rfl zc6 #[.slice pb nb cb] rfl ?_
    refine (zgb (.slice pb nb cb) bal xb (zac Db KB.out) (by have := HL.out; have := HN.out; omega)).mono ?_
    rintro e xa ⟨va, rfl, oa, ga⟩
    refine ⟨_, rfl, ga, ?_⟩
    simp only [Act.put, List.setIfInBounds_toArray, List.set_cons_zero, List.set_cons_succ]
    obtain ⟨⟨pa, na, ca⟩, rfl⟩ : ∃ s : SlV, va = sv s := by obtain ⟨p, c, rfl, _⟩ := zaj (zak oa); exact ⟨⟨p, _, c⟩, (zat _ _ _).symm⟩
    rw [zat] at oa ⊢
    have la : w.heap.size + 1 < xb.heap.size := Nat.lt_of_lt_of_le HLt.out Db.size
    have ea : Value.ownBlock (.slice pa na ca) ≠ some (w.heap.size + 1) := zty oa la
    have ka := zak oa
    clear oa la
    replace kb := zac ga kb
    have Da := zad Db ga
    clear ga
    refine GX.branch1 6 (by kernel_rfl) ?_
    refine zef rfl rfl rfl (.slice (some ⟨xa.heap.size, 0, none⟩) 1 1) (xa.alloc (.cells (cc ⟨0, r⟩) 37)) (by go_simp) (zcw below1) ?_
    simp only [Act.put, List.setIfInBounds_toArray, List.set_cons_zero, List.set_cons_succ]
    have kc : SlE Ecc (xa.alloc (.cells (cc ⟨0, r⟩) 37)) (.slice (some ⟨xa.heap.size, 0, none⟩) 1 1) [⟨0, r⟩] := zl5 xa ⟨0, r⟩ _ rfl
    have ec : Value.ownBlock (.slice (some ⟨xa.heap.size, 0, none⟩) 1 1) ≠ some (w.heap.size + 1) := zcu (by have := Nat.lt_of_lt_of_le HLt.out Da.size; omega)
    have gc : Below xa.heap.size xa (xa.alloc (.cells (cc ⟨0, r⟩) 37)) := below1
    generalize xa.alloc (.cells (cc ⟨0, r⟩) 37) = xc at *
    obtain ⟨Tc, hTc⟩ : ∃ T, T = xa.heap.size := ⟨_, rfl⟩
    rw [← hTc] at kc ec ⊢
    clear hTc
    replace kb := zac gc kb
    replace ka := zac gc ka
    have Dc := zad Da gc
    clear gc
    obtain ⟨xz, hxz⟩ : ∃ X, X = xc := ⟨_, rfl⟩
    rw [← hxz]
    have Dz : Below W7.heap.size W7 xz := by rw [hxz]; exact Dc
    rw [← hxz] at kb
    rw [← hxz] at ka
    rw [← hxz] at kc
    clear hxz Db Da Dc
   case' o4_6 =>
    refine zef rfl rfl rfl (.slice (some ⟨xb.heap.size, 0, none⟩) 1 1) (xb.alloc (.cells (cc ⟨0, r⟩) 37)) (by go_simp) (zcw below1) ?_
    simp only [Act.put, List.setIfInBounds_toArray, List.set_cons_zero, List.set_cons_succ]
    have kc : SlE Ecc (xb.alloc (.cells (cc ⟨0, r⟩) 37)) (.slice (some ⟨xb.heap.size, 0, none⟩) 1 1) [⟨0, r⟩] := zl5 xb ⟨0, r⟩ _ rfl
    have ec : Value.ownBlock (.slice (some ⟨xb.heap.size, 0, none⟩) 1 1) ≠ some (w.heap.size + 1) := zcu (by have := Nat.lt_of_lt_of_le HLt.out Db.size; omega)
    have gc : Below xb.heap.size xb (xb.alloc (.cells (cc ⟨0, r⟩) 37)) := below1
    generalize xb.alloc (.cells (cc ⟨0, r⟩) 37) = xc at *
    obtain ⟨Tc, hTc⟩ : ∃ T, T = xb.heap.size := ⟨_, rfl⟩
    rw [← hTc] at kc ec ⊢
    clear hTc
    replace kb := zac gc kb
    have Dc := zad Db gc
    clear gc
    refine GX.branch1 2 (by kernel_rfl) ?_
    refine zfo rfl rfl rfl rfl zc6 #[.slice pb nb cb] rfl ?_
    refine (zgb (.slice pb nb cb) bal xc (zac Dc KB.out) (by have := HL.out; have := HN.out; omega)).mono ?_
    rintro e xa ⟨va, rfl, oa, ga⟩
    refine ⟨_, rfl, ga, ?_⟩
    simp only [Act.put, List.setIfInBounds_toArray, List.set_cons_zero, List.set_cons_succ]
    obtain ⟨⟨pa, na, ca⟩, rfl⟩ : ∃ s : SlV, va = sv s := by obtain ⟨p, c, rfl, _⟩ := zaj (zak oa); exact ⟨⟨p, _, c⟩, (zat _ _ _).symm⟩
    rw [zat] at oa ⊢
    have la : w.heap.size + 1 < xc.heap.size := Nat.lt_of_lt_of_le HLt.out Dc.size
    have ea : Value.ownBlock (.slice pa na ca) ≠ some (w.heap.size + 1) := zty oa la
    have ka := zak oa
    clear oa la
    replace kb := zac ga kb
    replace kc := zac ga kc
    have Da := zad Dc ga
    clear ga
    obtain ⟨xz, hxz⟩ : ∃ X, X = xa := ⟨_, rfl⟩
    rw [← hxz]
    have Dz : Below W7.heap.size W7 xz := by rw [hxz]; exact Da
    rw [← hxz] at kb
    rw [← hxz] at kc
    rw [← hxz] at ka
    clear hxz Db Dc Da
  case' o6 =>
   refine zef rfl rfl rfl (.slice (some ⟨W7.drew.heap.size, 0, none⟩) 1 1) (W7.drew.alloc (.cells (cc ⟨0, r⟩) 37)) (by go_simp) (zcw below1) ?_
   simp only [Act.put, List.setIfInBounds_toArray, List.set_cons_zero, List.set_cons_succ]
   have kc : SlE Ecc (W7.drew.alloc (.cells (cc ⟨0, r⟩) 37)) (.slice (some ⟨W7.drew.heap.size, 0, none⟩) 1 1) [⟨0, r⟩] := zl5 W7.drew ⟨0, r⟩ _ rfl
   have ec : Value.ownBlock (.slice (some ⟨W7.drew.heap.size, 0, none⟩) 1 1) ≠ some (w.heap.size + 1) := zcu (by have := Nat.lt_of_lt_of_le HLt.out D0.size; omega)
   have gc : Below W7.drew.heap.size W7.drew (W7.drew.alloc (.cells (cc ⟨0, r⟩) 37)) := below1
   generalize W7.drew.alloc (.cells (cc ⟨0, r⟩) 37) = xc at *
   obtain ⟨Tc, hTc⟩ : ∃ T, T = W7.drew.heap.size := ⟨_, rfl⟩
   rw [← hTc] at kc ec ⊢
   clear hTc
   have Dc := zad D0 gc
   clear gc
   refine GX.branch2 2 4 (by kernel_rfl) ?o6_2 ?o6_4
   case' o6_2 =>
    refine zfo rfl rfl rfl rfl zc6 #[.slice pb nb cb] rfl ?_
    refine (zgb (.slice pb nb cb) bal xc (zac Dc KB.out) (by have := HL.out; have := HN.out; omega)).mono ?_
    rintro e xa ⟨va, rfl, oa, ga⟩
    refine ⟨_, rfl, ga, ?_⟩
    simp only [Act.put, List.setIfInBounds_toArray, List.set_cons_zero, List.set_cons_succ]
    obtain ⟨⟨pa, na, ca⟩, rfl⟩ : ∃ s : SlV, va = sv s := by obtain ⟨p, c, rfl, _⟩ := zaj (zak oa); exact ⟨⟨p, _, c⟩, (zat _ _ _).symm⟩
    rw [zat] at oa ⊢
    have la : w.heap.size + 1 < xc.heap.size := Nat.lt_of_lt_of_le HLt.out Dc.size
    have ea : Value.ownBlock (.slice pa na ca) ≠ some (w.heap.size + 1) := zty oa la
    have ka := zak oa
    clear oa la
    replace kc := zac ga kc
    have Da := zad Dc ga
    clear ga
    refine GX.branch1 4 (by kernel_rfl) ?_
    refine zef rfl rfl rfl (.slice (some ⟨xa.heap.size, 0, none⟩) 1 1) (xa.alloc (.cells #[.int .u64 0] 30)) (by go_simp) (zcw below1) ?_
    simp only [Act.put, List.setIfInBounds_toArray, List.set_cons_zero, List.set_cons_succ]
    have kb : SlE Enum (xa.alloc (.cells #[.int .u64 0] 30)) (.slice (some ⟨xa.heap.size, 0, none⟩) 1 1) [0] := zmk xa (v := 0) (by decide) _ rfl
    have eb : Value.ownBlock (.slice (some ⟨xa.heap.size, 0, none⟩) 1 1) ≠ some (w.heap.size + 1) := zcu (by have := Nat.lt_of_lt_of_le HLt.out Da.size; omega)
    have gb : Below xa.heap.size xa (xa.alloc (.cells #[.int .u64 0] 30)) := below1
    generalize xa.alloc (.cells #[.int .u64 0] 30) = xb at *
    obtain ⟨Tb, hTb⟩ : ∃ T, T = xa.heap.size := ⟨_, rfl⟩
    rw [← hTb] at kb eb ⊢
    clear hTb
    replace kc := zac gb kc
    replace ka := zac gb ka
    have Db := zad Da gb
    clear gb
    obtain ⟨xz, hxz⟩ : ∃ X, X = xb := ⟨_, rfl⟩
    rw [← hxz]
    have Dz : Below W7.heap.size W7 xz := by rw [hxz]; exact Db
    rw [← hxz] at kc
    rw [← hxz] at ka
    rw [← hxz] at kb
    clear hxz Dc Da Db
   case' o6_4 =>
    refine zef rfl rfl rfl (.slice (some ⟨xc.heap.size, 0, none⟩) 1 1) (xc.alloc (.cells #[.int .u64 0] 30)) (by go_simp) (zcw below1) ?_
    simp only [Act.put, List.setIfInBounds_toArray, List.set_cons_zero, List.set_cons_succ]
    have kb : SlE Enum (xc.alloc (.cells #[.int .u64 0] 30)) (.slice (some ⟨xc.heap.size, 0, none⟩) 1 1) [0] := zmk xc (v := 0) (by decide) _ rfl
    have eb : Value.ownBlock (.slice (some ⟨xc.heap.size, 0, none⟩) 1 1) ≠ some (w.heap.size + 1) := zcu (by have := Nat.lt_of_lt_of_le HLt.out Dc.size; omega)
    have gb : Below xc.heap.size xc (xc.alloc (.cells #[.int .u64 0] 30)) := below1
    generalize xc.alloc (.cells #[.int .u64 0] 30) = xb at *
    obtain ⟨Tb, hTb⟩ : ∃ T, T = xc.heap.size := ⟨_, rfl⟩
    rw [← hTb] at kb eb ⊢
    clear hTb
    replace kc := zac gb kc
    have Db := zad Dc gb
    clear gb
    refine GX.branch1 2 (by kernel_rfl) ?_
    refine zfo rfl rfl rfl rfl zc6 #[.slice pb nb cb] rfl ?_
    refine (zgb (.slice pb nb cb) bal xb (zac Db KB.out) (by have := HL.out; have := HN.out; omega)).mono ?_
    rintro e xa ⟨va, rfl, oa, ga⟩
    refine ⟨_, rfl, ga, ?_⟩
    simp only [Act.put, List.setIfInBounds_toArray, List.set_cons_zero, List.set_cons_succ]
    obtain ⟨⟨pa, na, ca⟩, rfl⟩ : ∃ s : SlV, va = sv s := by obtain ⟨p, c, rfl, _⟩ := zaj (zak oa); exact ⟨⟨p, _, c⟩, (zat _ _ _).symm⟩
    rw [zat] at oa ⊢
    have la : w.heap.size + 1 < xb.heap.size := Nat.lt_of_lt_of_le HLt.out Db.size
    have ea : Value.ownBlock (.slice pa na ca) ≠ some (w.heap.size + 1) := zty oa la
    have ka := zak oa
    clear oa la
    replace kc := zac ga kc
    replace kb := zac ga kb
    have Da := zad Db ga
    clear ga
    obtain ⟨xz, hxz⟩ : ∃ X, X = xa := ⟨_, rfl⟩
    rw [← hxz]
    have Dz : Below W7.heap.size W7 xz := by rw [hxz]; exact Da
    rw [← hxz] at kc
    rw [← hxz] at kb
    rw [← hxz] at ka
    clear hxz Dc Db Da
  all_goals
   refine GX.take2 8 rfl rfl rfl (by kernel_rfl) (by kernel_rfl) (by kernel_rfl) rfl hwB ?_
   (first | go_big_quiet_step (fail) | quiet_step (fail)); refine wpQuiet_nil ?_
   have me := zab Dz ME.out
   have yw := za8 me (zas _)
   refine GX.branch1 9 (by kernel_rfl) ?_
   refine zg8 rfl rfl rfl (stA xz (.pointer (some ⟨w.heap.size + 1, 0, none⟩)) (.agg (en ⟨⟨s1⟩, ⟨pa, na, ca⟩, ⟨s2, (newV (nb : Int)).out⟩, ⟨some ⟨Tb, 0, none⟩, 1, 1⟩, ⟨none, 0, 0⟩, ⟨none, 0, 0⟩, ⟨some ⟨Tc, 0, none⟩, 1, 1⟩, ⟨0, r⟩, 0⟩))) (by (go_simp; first | done | rfl)) (zcr (by kernel_rfl) (zav (Below.refl _ _) (Nat.le_refl _))) ?_
   simp only [Act.put]
   have HR : Hid (LaidG (stA xz (.pointer (some ⟨w.heap.size + 1, 0, none⟩)) (.agg (en ⟨⟨s1⟩, ⟨pa, na, ca⟩, ⟨s2, (newV (nb : Int)).out⟩, ⟨some ⟨Tb, 0, none⟩, 1, 1⟩, ⟨none, 0, 0⟩, ⟨none, 0, 0⟩, ⟨some ⟨Tc, 0, none⟩, 1, 1⟩, ⟨0, r⟩, 0⟩))) ⟨⟨s1⟩, ⟨pa, na, ca⟩, ⟨s2, (newV (nb : Int)).out⟩, ⟨some ⟨Tb, 0, none⟩, 1, 1⟩, ⟨none, 0, 0⟩, ⟨none, 0, 0⟩, ⟨some ⟨Tc, 0, none⟩, 1, 1⟩, ⟨0, r⟩, 0⟩ (newG r bal)) := by have := yji me (zac Dz K1.out) (zac Dz K2.out) (sb := ⟨pa, na, ca⟩) (sw := ⟨some ⟨Tb, 0, none⟩, 1, 1⟩) (sj := ⟨some ⟨Tc, 0, none⟩, 1, 1⟩) (by rw [zat]; exact ka) (by rw [zat]; exact ea) (by rw [zat]; exact kb) (by rw [zat]; exact eb) (by rw [zat]; exact kc) (by rw [zat]; exact ec) (.agg (en ⟨⟨s1⟩, ⟨pa, na, ca⟩, ⟨s2, (newV (nb : Int)).out⟩, ⟨some ⟨Tb, 0, none⟩, 1, 1⟩, ⟨none, 0, 0⟩, ⟨none, 0, 0⟩, ⟨some ⟨Tc, 0, none⟩, 1, 1⟩, ⟨0, r⟩, 0⟩)); rw [HL.out] at this; exact this
   have HM : Hid ((stA xz (.pointer (some ⟨w.heap.size + 1, 0, none⟩)) (.agg (en ⟨⟨s1⟩, ⟨pa, na, ca⟩, ⟨s2, (newV (nb : Int)).out⟩, ⟨some ⟨Tb, 0, none⟩, 1, 1⟩, ⟨none, 0, 0⟩, ⟨none, 0, 0⟩, ⟨some ⟨Tc, 0, none⟩, 1, 1⟩, ⟨0, r⟩, 0⟩))).heap[w.heap.size + 1]? = some (.cells (en ⟨⟨s1⟩, ⟨pa, na, ca⟩, ⟨s2, (newV (nb : Int)).out⟩, ⟨some ⟨Tb, 0, none⟩, 1, 1⟩, ⟨none, 0, 0⟩, ⟨none, 0, 0⟩, ⟨some ⟨Tc, 0, none⟩, 1, 1⟩, ⟨0, r⟩, 0⟩) 39 (0, 0))) := by show _ = _; rw [zbu me (by rw [zas, zas]; decide)]; congr 2; exact zh6 (by rw [zas, zas])
   have HZ : Hid (Below w.heap.size w (stA xz (.pointer (some ⟨w.heap.size + 1, 0, none⟩)) (.agg (en ⟨⟨s1⟩, ⟨pa, na, ca⟩, ⟨s2, (newV (nb : Int)).out⟩, ⟨some ⟨Tb, 0, none⟩, 1, 1⟩, ⟨none, 0, 0⟩, ⟨none, 0, 0⟩, ⟨some ⟨Tc, 0, none⟩, 1, 1⟩, ⟨0, r⟩, 0⟩)))) := zav (zad A0.out Dz) (by omega)
   clear yw
   refine GX.take2 10 rfl rfl rfl (by kernel_rfl) (by kernel_rfl) (by kernel_rfl) rfl hwB ?_
   (first | go_big_quiet_step (fail) | quiet_step (fail)); refine wpQuiet_nil ?_
   refine GX.nil (by kernel_rfl) ?_
   clear Q0 Q1 Q2 hwB
   go_wp2_with fail
   exact bodyPost_ret (v := .tuple #[.agg (en _), .bool true]) (zal Tryz.isAgg39 Tryz.sizeOf39 _ 4 5 rfl _ _ _ _ _ rfl rfl (zaf HM.out (zas _))) rfl ⟨_, rfl, by rw [HG.out]; exact HR.out, HZ.out⟩
theorem yas (r : Rt) (v : Value) (bal : List UInt64) (w : World) (h : SlE Enum w v bal) (hn : bal.length ≤ 1000) :
  Calls Tryz.prog 11 #[.agg (rc r), v] w (EgOk (if mayB bal = true then newG r bal else yag) (mayB bal) w) := by
 have k := h
 obtain ⟨p, c, rfl, _⟩ := zaj h
 exact z08 r p _ c bal w k rfl hn
end
structure AaV (W : World) (T : Nat) (a : Aa) : Prop where
 val : W.cell? ⟨T, 0, none⟩ = some (.int .i64 a.val)
 slot : W.cell? ⟨T, 1, none⟩ = some (.int .u64 (a.slot.toNat : Int))
 head : ldA W (.pointer (some ⟨T, 2, none⟩)) 32 = some (rc a.head)
 src : ldA W (.pointer (some ⟨T, 34, none⟩)) 33 = some (cc a.source)
 se : W.cell? ⟨T, 34, none⟩ = some (.int .u64 (a.source.epoch.toNat : Int))
 sr : ldA W (.pointer (some ⟨T, 35, none⟩)) 32 = some (rc a.source.root)
 tgt : ldA W (.pointer (some ⟨T, 67, none⟩)) 33 = some (cc a.target)
 te : W.cell? ⟨T, 67, none⟩ = some (.int .u64 (a.target.epoch.toNat : Int))
 tr : ldA W (.pointer (some ⟨T, 68, none⟩)) 32 = some (rc a.target.root)
 all : ldA W (.pointer (some ⟨T, 0, none⟩)) 100 = some (aa a)
theorem aa_v {W : World} {T : Nat} {a : Aa} (h : W.heap[T]? = some (.cells (aa a) 62 (0, 0))) : AaV W T a :=
 ⟨z9c h, zih h, z37 h, zy9 h, zls h, zm5 h, zxc h, zl0 h, znx h, zaf h (zfg a)⟩
theorem yet {g : Eg} {a : Aa} (h : ¬ (0 ≤ a.val ∧ a.val < g.bal.length)) : fitG g a = 10 := by unfold fitG; rw [if_neg h]
theorem ydm {g : Eg} {a : Aa} (h : 0 ≤ a.val ∧ a.val < g.bal.length) (h1 : ¬ (0 ≤ zay g.t a.head ∧ 0 ≤ zay g.t a.source.root ∧ 0 ≤ zay g.t a.target.root)) : fitG g a = 5 := by
 unfold fitG
 rw [if_pos h, if_neg]
 rw [zhs, zhs, zhs]; exact h1
theorem yi6 {g : Eg} {a : Aa} (h : 0 ≤ a.val ∧ a.val < g.bal.length) (h1 : 0 ≤ zay g.t a.head ∧ 0 ≤ zay g.t a.source.root ∧ 0 ≤ zay g.t a.target.root) : fitG g a = if a.source.epoch.toNat < a.target.epoch.toNat ∧ zcj g.t (zay g.t a.source.root) (zay g.t a.target.root) = true ∧ zcj g.t (zay g.t a.target.root) (zay g.t a.head) = true then 0 else 9 := by
 unfold fitG
 rw [if_pos h, if_pos]
 rw [zhs, zhs, zhs]; exact h1
theorem ysd {g : Eg} {a : Aa} (h : zlz g a ≠ 0) : ctG g a = g := if_neg h
theorem yoe {g : Eg} {a : Aa} (h : zlz g a = 0) : ctG g a = { g with k := ctK g a, v := ctV g a, w := wtsL g.t (ctV g a) g.bal, j := ctJ g a, fin := zha g.t (ctK g a) g.bal (ctJ g a) g.fin } := if_pos h
theorem ypf {g : Eg} (h : zjg g ≠ 0) : prG g = g := if_neg h
theorem yns {g : Eg} (h : zjg g = 0) : prG g = { g with t := prT g, v := prV g, w := wtsL (prT g) (prV g) g.bal, k := g.k.filter (zps (prT g) g.fin), j := g.j.filter (zqn (prT g) g.fin) } := if_pos h
theorem z2q {g : Eg} (h : mayG g = false) : zjg g = 1 := by unfold zjg; rw [h]; exact if_neg (by decide)
theorem z59 {g : Eg} (h : mayG g = true) : zjg g = 0 := by unfold zjg; rw [if_pos h]
theorem ybr {l : List Nd} {k : Nat} (h : k < l.length) : (l.take (k + 1)).map Nd.root = (l.take k).map Nd.root ++ [(nd l k).root] := by
 rw [List.take_succ_eq_append_getElem h, List.map_append]
 unfold nd
 simp [h]
theorem zz4 {g : Eg} (h : zee g ≠ 0) : zd2 g = g := if_neg h
theorem yju {g : Eg} (h : zee g = 0) : zd2 g = (dueL g.late (g.now.toNat + 1)).foldl oneG (upG g) := if_pos h
theorem zz3 {g : Eg} (h : mayG g = false) : zee g = 1 := by unfold zee; rw [h]; exact if_neg (by decide)
theorem z8s {g : Eg} (h : mayG g = true) (hn : g.now.toNat = 1099511627776) : zee g = 3 := by unfold zee; rw [if_pos h, if_pos hn]
theorem ym3 {g : Eg} (h : mayG g = true) (hn : ¬ g.now.toNat = 1099511627776) : zee g = 0 := by unfold zee; rw [if_pos h, if_neg hn]
def tkE (g : Eg) (k : Nat) : Eg := ((dueL g.late (g.now.toNat + 1)).take k).foldl oneG (upG g)
theorem ylf (g : Eg) : tkE g 0 = upG g := rfl
theorem ym9 {g : Eg} {k : Nat} (h : k < (dueL g.late (g.now.toNat + 1)).length) : tkE g (k + 1) = oneG (tkE g k) (att (dueL g.late (g.now.toNat + 1)) k) := by
 unfold tkE
 rw [List.take_succ_eq_append_getElem h, List.foldl_append, znt h]; rfl
theorem ypq {g : Eg} (h : zee g = 0) : tkE g (dueL g.late (g.now.toNat + 1)).length = zd2 g := by
 unfold tkE
 rw [List.take_length, yju h]
theorem ysl {g : Eg} (h : MayS' g) (hn : zee g = 0) (k : Nat) : MayS' (tkE g k) := yok _ (up_G h (zkr hn).2)
theorem yp4 {g : Eg} (h : MayS' g) (hn : zee g = 0) (k : Nat) : (tkE g k).j.length ≤ g.j.length + 96 := by
 have h1 := z69 ((dueL g.late (g.now.toNat + 1)).take k) (up_G h (zkr hn).2)
 have h2 := z65 (l := g.late) (now := g.now.toNat + 1)
 have h3 := (zdy.1 h.late).1
 have h4 : ((dueL g.late (g.now.toNat + 1)).take k).length ≤ (dueL g.late (g.now.toNat + 1)).length := by rw [List.length_take]; omega
 have h5 : (upG g).j.length = g.j.length := rfl
 unfold tkE
 omega
theorem znh {g : Eg} {b : Bk} (h : ze6 g b ≠ 0) : blkG g b = g := if_neg h
theorem ys7 {g : Eg} {b : Bk} (h : ze6 g b = 0) : blkG g b = { g with t := insL g.t b.root b.parent b.slot b.just, w := g.w ++ [0] } := if_pos h
theorem zn8 {g : Eg} {b : Bk} (h : mayG g = false) : ze6 g b = 1 := by unfold ze6; rw [h]; exact if_neg (by decide)
theorem yeo {g : Eg} {b : Bk} (h : mayG g = true) (hn : g.now.toNat < b.slot.toNat) : ze6 g b = 7 := by unfold ze6; rw [if_pos h, if_pos hn]
theorem ygn {g : Eg} {b : Bk} (h : mayG g = true) (hn : ¬ g.now.toNat < b.slot.toNat) (hi : insE g.t b.root b.parent b.slot ≠ 0) : ze6 g b = insE g.t b.root b.parent b.slot := by unfold ze6; rw [if_pos h, if_neg hn, if_neg hi]
theorem ygt {g : Eg} {b : Bk} (h : mayG g = true) (hn : ¬ g.now.toNat < b.slot.toNat) (hi : insE g.t b.root b.parent b.slot = 0) : ze6 g b = if zcj (insL g.t b.root b.parent b.slot b.just) (zay g.t g.fin.root) g.t.length = true then 0 else 8 := by unfold ze6; rw [if_pos h, if_neg hn, if_pos hi]
theorem z6e {g : Eg} {a : Aa} (h : mayG g = false) : attG g a = g ∧ zft g a = 1 := by
 unfold attG zft
 rw [h]
 exact ⟨if_neg (fun e => by cases e.1), if_neg (by decide)⟩
theorem ymc {g : Eg} {a : Aa} (h : mayG g = true) (hf : fitG g a ≠ 0) : attG g a = g ∧ zft g a = fitG g a := by
 unfold attG zft
 rw [if_neg (fun e => hf e.2), if_pos h, if_neg hf]
 exact ⟨rfl, rfl⟩
theorem yno {g : Eg} {a : Aa} (h : mayG g = true) (hf : fitG g a = 0) (hn : a.slot.toNat < g.now.toNat) : attG g a = ctG g a ∧ zft g a = zlz g a := by
 unfold attG zft
 rw [if_pos ⟨h, hf⟩, if_pos hn, if_pos h, if_pos hf, if_pos hn]
 exact ⟨rfl, rfl⟩
theorem ycw {g : Eg} {a : Aa} (h : mayG g = true) (hf : fitG g a = 0) (hn : ¬ a.slot.toNat < g.now.toNat) : attG g a = { g with late := putA g.late a } ∧ zft g a = putE g.late a := by
 unfold attG zft
 rw [if_pos ⟨h, hf⟩, if_neg hn, if_pos h, if_pos hf, if_neg hn]
 exact ⟨rfl, rfl⟩
theorem yuv {g : Eg} (h : mayG g = false) : ∀ c : Cmd, doG g c = g ∧ zfs g c = 1
 | .block b => ⟨znh (by rw [zn8 h]; decide), zn8 h⟩
 | .att a => z6e h
 | .tick => ⟨zz4 (by rw [zz3 h]; decide), zz3 h⟩
 | .prune => ⟨ypf (by rw [z2q h]; decide), z2q h⟩
 | .form => ⟨rfl, by unfold zfs; rw [h]; exact if_neg (by decide)⟩
 | .other => ⟨rfl, rfl⟩
theorem z8p (p q : Option Addr) (n m cl ck : Nat) (w : World) (hl : n ≠ m) :
  Calls Tryz.prog 86 #[.slice p n cl, .slice q m ck] w fun e w' => e = .returned (.bool false) ∧ Below w.heap.size w w' := by
 have e1 : ((n : Int) == (m : Int)) = false := by simp; omega
 clear hl
 go_enter Tryz.func86, Tryz.ntmps86
 go_wp2_with fail
 go_ret
 exact ⟨rfl, Below.refl _ _⟩
theorem z8c (p q : Option Addr) (n cl ck : Nat) (l k : List Nd) (w : World) (h : SlE Ene w (.slice p n cl) l) (h' : SlE Ene w (.slice q n ck) k) (hl : l.length = n) (hk : k.length = n) (hn : n ≤ 1000) :
  Calls Tryz.prog 86 #[.slice p n cl, .slice q n ck] w fun e w' => e = .returned (.bool (decide (l = k))) ∧ Below w.heap.size w w' := by
 have HS := Lib.hid h
 have HT := Lib.hid h'
 have HL := Lib.hid hl
 have HK := Lib.hid hk
 have HN := Lib.hid hn
 obtain ⟨r, hr⟩ : ∃ r, r = decide (l = k) := ⟨_, rfl⟩
 rw [← hr]
 have HR := Lib.hid hr
 clear h h' hl hk hn hr
 go_enter Tryz.func86, Tryz.ntmps86
 go_wp2_with fail
 go_loopw [5, 13] (fun _ i wr => ∃ j : Nat, j ≤ n ∧ i = .int .i64 j ∧ (∀ x, x < j → nd l x = nd k x) ∧ Below w.heap.size w wr) (fun _ i _ => n - (intOf i).toNat)
 case atStart => exact ⟨0, Nat.zero_le _, rfl, fun x hx => absurd hx (Nat.not_lt_zero _), Below.refl _ _⟩
 case round =>
  obtain ⟨j, hj, rfl, hx, hb⟩ := hrel
  have HX := Lib.hid hx
  have HB := Lib.hid hb
  clear hx hb
  by_cases hlt : j < n
  ·
   have i0 : (0 : Int) ≤ (j : Int) := by omega
   have i1 : (j : Int) < (n : Int) := by omega
   have u1 : (j : Int) + 1 < 10000 := by have := HN.out; omega
   obtain ⟨b1, o1, c1, e1, _, q1, x1⟩ := zc8 HS.out (by have := HL.out; omega)
   injection e1 with e2 _ e3
   subst e2 e3
   obtain ⟨b2, o2, c2, e1, _, q2, x2⟩ := zc8 HT.out (by have := HK.out; omega)
   injection e1 with e2 _ e3
   subst e2 e3
   have y1 : ldA wr (.pointer (some ⟨b1, o1 + j * 35, none⟩)) 35 = some (ne (nd l j)) := keep HB.out (zwp x1 (by have := HL.out; omega))
   have y2 : ldA wr (.pointer (some ⟨b2, o2 + j * 35, none⟩)) 35 = some (ne (nd k j)) := keep HB.out (zwp x2 (by have := HK.out; omega))
   clear x1 x2 q1 q2
   by_cases he : nd l j = nd k j
   ·
    have HE := Lib.hid he
    rw [he] at y1
    clear he
    go_wp2_with fail
    go_quiet (fail)
    go_wp2_with fail
    go_roundw
    case rel => exact ⟨j + 1, by omega, by go_num, fun x hx => by
     rcases Nat.lt_succ_iff_lt_or_eq.1 hx with h | rfl
     ·
      exact HX.out x h
     ·
      exact HE.out, zap HB.out _⟩
    case measure => simp [intOf]; omega
   ·
    have hR : Hid (r = false) := by
     show r = false
     rw [HR.out, decide_eq_false_iff_not]
     intro e; exact he (by rw [e])
    have t1 : decide (nd l j = nd k j) = false := decide_eq_false he
    clear he
    go_wp2_with fail
    go_quiet (fail)
    go_wp2_with fail
    go_ret
    exact ⟨by rw [hR.out]; first | done | rfl, zap HB.out _⟩
  ·
   obtain rfl : j = n := by omega
   have hR : Hid (r = true) := by
    show r = true
    rw [HR.out, decide_eq_true_iff]
    exact yv7 (by rw [HL.out, HK.out]) fun i hi => HX.out i (by have := HK.out; omega)
   go_wp2_with fail
   go_ret
   exact ⟨by rw [hR.out]; first | done | rfl, HB.out⟩
theorem z3v (s t : SlV) (l k : List Nd) (w : World) (h : SlE Ene w (sv s) l) (h' : SlE Ene w (sv t) k) (hn : l.length ≤ 1000) :
  Calls Tryz.prog 86 #[sv s, sv t] w fun e w' => e = .returned (.bool (decide (l = k))) ∧ Below w.heap.size w w' := by
 have hs := zdm h
 have ht := zdm h'
 obtain ⟨p, n, cl⟩ := s
 obtain ⟨q, m, ck⟩ := t
 dsimp only at hs ht
 by_cases e : n = m
 ·
  subst e
  exact z8c p q n cl ck l k w h h' hs ht (by omega)
 ·
  rw [decide_eq_false (fun he => e (by rw [← hs, ← ht, he]))]
  exact z8p p q n m cl ck w e
theorem yix (s t : SlV) (l k : List Nd) (w : World) (h : SlE Ene w (sv s) l) (h' : SlE Ene w (sv t) k) (hn : l.length ≤ 1000) :
  Calls Tryz.prog 53 #[.agg (tr ⟨s⟩), .agg (tr ⟨t⟩)] w fun e w' => e = .returned (.bool (decide (l = k))) ∧ Below w.heap.size w w' := by
 have HC := Lib.hid (fun W (g : Below w.heap.size w W) => z3v s t l k W (zac g h) (zac g h') hn)
 have HB : Hid (Below w.heap.size w ((w.alloc (.cells (tr ⟨s⟩) 28)).alloc (.cells (tr ⟨t⟩) 28))) := zad below1 below1
 obtain ⟨r, hr⟩ : ∃ r, r = decide (l = k) := ⟨_, rfl⟩
 rw [← hr] at HC ⊢
 clear h h' hn hr
 obtain ⟨p, n, cp⟩ := s
 obtain ⟨q, m, cq⟩ := t
 go_enter Tryz.func53, Tryz.ntmps53
 go_wp2_with fail
 refine (HC.out _ HB.out).mono ?_
 rintro e w1 ⟨rfl, g1⟩
 have G1 := Lib.hid g1
 clear g1
 go_wp2_with fail
 go_ret
 exact ⟨rfl, zad HB.out G1.out⟩
end Go.Proofs.YtmihlihlpdkdcaaGreat
