import Derived.Test.YtmihlihlpdkdcaaGreatS10
import Derived.Test.YtmihlihlpdkdcaaGreatS13
import Derived.Test.YtmihlihlpdkdcaaGreatS07
import Derived.Test.YtmihlihlpdkdcaaGreatS08
import Derived.Test.YtmihlihlpdkdcaaGreatS12
import Derived.Laws.Cover3
namespace Go.Proofs.YtmihlihlpdkdcaaGreat
open Go.RowKit
set_option maxRecDepth 200000
set_option maxHeartbeats 64000000
section
@[local go_sem] theorem yuh (r : Rt) : ({ epoch := zcc.epoch, root := r } : Ck) = ⟨0, r⟩ := rfl
theorem zct : ∀ args w, (callFunc 34 args).run Tryz.prog w = .ok (.enter 34 args) w := za8 Tryz.func34 (by kernel_rfl) (by kernel_rfl)
theorem zx2 (r : Rt) (pb : Option Addr) (nb cb : Nat) (bal : List UInt64) (w : World) (h : SlE Enum w (.slice pb nb cb) bal) (hl : bal.length = nb) (hn : nb ≤ 1000) :
  Calls Tryz.prog 11 #[.agg (rc r), .slice pb nb cb] w (EgOk (if mayB bal = true then newG r bal else zor) (mayB bal) w) := by
 obtain ⟨W0, hW0⟩ : ∃ W0, W0 = (w.alloc (.cells (rc r) 23)).alloc (.cells (en zen) 39) := ⟨_, rfl⟩
 obtain ⟨hB, q0, q1, hz⟩ := zdz w _ _ _ _ W0 hW0
 have MR : Hid (W0.heap[w.heap.size]? = some (.cells (rc r) 23 (0, 0))) := q0
 have ME : Hid (W0.heap[w.heap.size + 1]? = some (.cells (en zen) 39 (0, 0))) := q1
 have KB := Lib.hid (zac hB h)
 have A0 := Lib.hid hB
 have HW := Lib.hid hW0
 have HL := Lib.hid hl
 have HN := Lib.hid hn
 have HMy := Lib.hid (fun W hh => zo2 (.slice pb nb cb) bal W hh)
 obtain ⟨may, hmay⟩ : ∃ m, m = mayB bal := ⟨_, rfl⟩
 rw [← hmay] at HMy ⊢
 obtain ⟨GE, hGr⟩ : ∃ G, G = (if may = true then newG r bal else zor) := ⟨_, rfl⟩
 rw [← hGr]
 have HG0 : Hid (may = false → GE = zor) := fun e => by rw [hGr, e]; rfl
 have HG1 : Hid (may = true → GE = newG r bal) := fun e => by rw [hGr, e]; rfl
 clear hW0 hB q0 q1 hz h hl hn hmay hGr
 go_enter Tryz.func11, Tryz.ntmps11
 go_upto_region 1 with fail
 rw [← HW.out]
 go_wp2_with fail
 refine (HMy.out _ KB.out).mono ?_
 rintro e w1 ⟨rfl, g⟩
 replace MR := Lib.hid (zab g MR.out)
 replace ME := Lib.hid (zab g ME.out)
 replace KB := Lib.hid (zac g KB.out)
 replace A0 := Lib.hid (zad A0.out g)
 clear g HMy
 cases may
 ·
  have HG := Lib.hid (HG0.out rfl)
  clear HG0 HG1
  have ye := zay ME.out (zak _)
  go_wp2_with fail
  exact bodyPost_ret (v := .tuple #[.agg (en zen), .bool false]) (zaj Tryz.isAgg39 Tryz.sizeOf39 _ 4 5 rfl _ _ _ _ _ rfl rfl (zae (by rw [zbe ME.out (by rw [zak]; decide)]; congr 2; exact zek rfl) (zak _))) rfl ⟨zen, rfl, by rw [HG.out]; exact zxm _, zao A0.out (by omega)⟩
 ·
  have HG := Lib.hid (HG1.out rfl)
  clear HG0 HG1
  have zr := zae MR.out (zal _)
  go_wp2_with fail
  refine (yoi r 0 _).mono ?_
  rintro e w2 ⟨s1, rfl, h1, g⟩
  rw [show newL r 0 = [⟨r, -1, 0, 0⟩] by unfold newL; rw [if_pos (show zvn 0 = true from rfl)]; rfl] at h1
  have gg := zad g (below1 (o := .cells (tr ⟨s1⟩) 28))
  replace MR := Lib.hid (zab gg MR.out)
  replace ME := Lib.hid (zab gg ME.out)
  replace KB := Lib.hid (zac gg KB.out)
  replace A0 := Lib.hid (zad A0.out gg)
  have MT : Hid ((w2.alloc (.cells (tr ⟨s1⟩) 28)).heap[w2.heap.size]? = some (.cells (tr ⟨s1⟩) 28 (0, 0))) := heap_alloc_last w2 _
  have K1 := Lib.hid (zac (below1 (o := .cells (tr ⟨s1⟩) 28)) h1)
  clear g gg h1 zr
  go_wp2_with fail
  have H12 := Lib.hid (yeo (bal.length : Int))
  rw [HL.out] at H12
  refine (H12.out _).mono ?_
  rintro e w3 ⟨s2, rfl, h2, g⟩
  rw [← HL.out] at h2
  have gg := zad g (below1 (o := .cells (vo ⟨s2, (newV (nb : Int)).out⟩) 32))
  replace MR := Lib.hid (zab gg MR.out)
  replace ME := Lib.hid (zab gg ME.out)
  replace KB := Lib.hid (zac gg KB.out)
  replace A0 := Lib.hid (zad A0.out gg)
  replace MT := Lib.hid (zab gg MT.out)
  replace K1 := Lib.hid (zac gg K1.out)
  have MV : Hid ((w3.alloc (.cells (vo ⟨s2, (newV (nb : Int)).out⟩) 32)).heap[w3.heap.size]? = some (.cells (vo ⟨s2, (newV (nb : Int)).out⟩) 32 (0, 0))) := heap_alloc_last w3 _
  have K2 := Lib.hid (zac (below1 (o := .cells (vo ⟨s2, (newV (nb : Int)).out⟩) 32)) h2)
  clear g gg h2 H12
  have hz3 : (w3.alloc (.cells (vo ⟨s2, (newV (nb : Int)).out⟩) 32)).heap.size = w3.heap.size + 1 := by simp
  have zr := zae MR.out (zal _)
  go_upto_region 6 with fail
  generalize w3.alloc (.cells (vo ⟨s2, (newV (nb : Int)).out⟩) 32) = w4 at *
  obtain ⟨W7, hW7⟩ : ∃ W, W = w4.alloc (.cells (cc ⟨0, r⟩) 37) := ⟨_, rfl⟩
  have g7 : Below w4.heap.size w4 W7 := by rw [hW7]; exact below1
  have MC : Hid (W7.heap[w3.heap.size + 1]? = some (.cells (cc ⟨0, r⟩) 37 (0, 0))) := by show _ = _; rw [hW7, ← hz3]; exact heap_alloc_last w4 _
  replace ME := Lib.hid (zab g7 ME.out)
  replace KB := Lib.hid (zac g7 KB.out)
  replace A0 := Lib.hid (zad A0.out g7)
  replace MT := Lib.hid (zab g7 MT.out)
  replace K1 := Lib.hid (zac g7 K1.out)
  replace MV := Lib.hid (zab g7 MV.out)
  replace K2 := Lib.hid (zac g7 K2.out)
  have HLt : Hid (w.heap.size + 1 < W7.heap.size) := (Array.getElem?_eq_some_iff.1 ME.out).1
  rw [← hW7]
  clear hW7 g7 zr hz3 MR
  have zt := (zaz MT.out).2.1
  have zv := (zba MV.out).2.2.1
  have zc := zae MC.out (zaw _)
  have hwB : w.heap.size + 1 ≤ W7.drew.heap.size := Nat.le_of_lt HLt.out
  have Q0 := fun p : Wd W7.drew => zd8 zt (by decide) p
  have Q1 := fun p : Wd W7.drew => zd8 zv (by decide) p
  have Q2 := fun p : Wd W7.drew => zd8 zc (by decide) p
  clear zt zv zc
  refine zhq (w.heap.size + 1) [0, 3, 5, 7] [2, 4, 6, 9] (by kernel_rfl) ?_
  refine GX.take1 0 rfl rfl rfl (by kernel_rfl) (by kernel_rfl) (by kernel_rfl) rfl hwB ?_
  (first | go_big_quiet_step (fail) | quiet_step (fail)); refine wpQuiet_nil ?_
  refine GX.take2 1 rfl rfl rfl (by kernel_rfl) (by kernel_rfl) (by kernel_rfl) rfl hwB ?_
  (first | go_big_quiet_step (fail) | quiet_step (fail)); refine wpQuiet_nil ?_
  refine GX.take1 3 rfl rfl rfl (by kernel_rfl) (by kernel_rfl) (by kernel_rfl) rfl hwB ?_
  (first | go_big_quiet_step (fail) | quiet_step (fail)); refine wpQuiet_nil ?_
  refine GX.take1 5 rfl rfl rfl (by kernel_rfl) (by kernel_rfl) (by kernel_rfl) rfl hwB ?_
  (first | go_big_quiet_step (fail) | quiet_step (fail)); refine wpQuiet_nil ?_
  refine GX.take1 7 rfl rfl rfl (by kernel_rfl) (by kernel_rfl) (by kernel_rfl) rfl hwB ?_
  (first | go_big_quiet_step (fail) | quiet_step (fail)); refine wpQuiet_nil ?_
  have D0 : Below W7.heap.size W7 W7.drew := zar (Below.refl _ _) 1
  refine GX.branch3 2 4 6 (by kernel_rfl) ?o2 ?o4 ?o6
  case' o2 =>
   refine zeu rfl rfl rfl rfl zct #[.slice pb nb cb] rfl ?_
   refine (zfh (.slice pb nb cb) bal W7.drew (zac D0 KB.out) (by have := HL.out; have := HN.out; omega)).mono ?_
   rintro e xa ⟨va, rfl, oa, ga⟩
   refine ⟨_, rfl, ga, ?_⟩
   simp only [Act.put, List.setIfInBounds_toArray, List.set_cons_zero, List.set_cons_succ]
   obtain ⟨⟨pa, na, ca⟩, rfl⟩ : ∃ s : SlV, va = sv s := by obtain ⟨p, c, rfl, _⟩ := zaf (zai oa); exact ⟨⟨p, _, c⟩, (zav _ _ _).symm⟩
   rw [zav] at oa ⊢
   have la : w.heap.size + 1 < W7.drew.heap.size := Nat.lt_of_lt_of_le HLt.out D0.size
   have ea : Value.ownBlock (.slice pa na ca) ≠ some (w.heap.size + 1) := zgp oa la
   have ka := zai oa
   clear oa la
   have Da := zad D0 ga
   clear ga
   refine GX.branch2 4 6 (by kernel_rfl) ?o2_4 ?o2_6
   case' o2_4 =>
    refine zby rfl rfl rfl (.slice (some ⟨xa.heap.size, 0, none⟩) 1 1) (xa.alloc (.cells #[.int .u64 0] 30)) (by go_simp) (zbm below1) ?_
    simp only [Act.put, List.setIfInBounds_toArray, List.set_cons_zero, List.set_cons_succ]
    have kb : SlE Enum (xa.alloc (.cells #[.int .u64 0] 30)) (.slice (some ⟨xa.heap.size, 0, none⟩) 1 1) [0] := zet xa (v := 0) (by decide) _ rfl
    have eb : Value.ownBlock (.slice (some ⟨xa.heap.size, 0, none⟩) 1 1) ≠ some (w.heap.size + 1) := za9 (by have := Nat.lt_of_lt_of_le HLt.out Da.size; omega)
    have gb : Below xa.heap.size xa (xa.alloc (.cells #[.int .u64 0] 30)) := below1
    generalize xa.alloc (.cells #[.int .u64 0] 30) = xb at *
    obtain ⟨Tb, hTb⟩ : ∃ T, T = xa.heap.size := ⟨_, rfl⟩
    rw [← hTb] at kb eb ⊢
    clear hTb
    replace ka := zac gb ka
    have Db := zad Da gb
    clear gb
    refine GX.branch1 6 (by kernel_rfl) ?_
    refine zby rfl rfl rfl (.slice (some ⟨xb.heap.size, 0, none⟩) 1 1) (xb.alloc (.cells (cc ⟨0, r⟩) 37)) (by go_simp) (zbm below1) ?_
    simp only [Act.put, List.setIfInBounds_toArray, List.set_cons_zero, List.set_cons_succ]
    have kc : SlE Ecc (xb.alloc (.cells (cc ⟨0, r⟩) 37)) (.slice (some ⟨xb.heap.size, 0, none⟩) 1 1) [⟨0, r⟩] := ze8 xb ⟨0, r⟩ _ rfl
    have ec : Value.ownBlock (.slice (some ⟨xb.heap.size, 0, none⟩) 1 1) ≠ some (w.heap.size + 1) := za9 (by have := Nat.lt_of_lt_of_le HLt.out Db.size; omega)
    have gc : Below xb.heap.size xb (xb.alloc (.cells (cc ⟨0, r⟩) 37)) := below1
    generalize xb.alloc (.cells (cc ⟨0, r⟩) 37) = xc at *
    obtain ⟨Tc, hTc⟩ : ∃ T, T = xb.heap.size := ⟨_, rfl⟩
    rw [← hTc] at kc ec ⊢
    clear hTc
    replace ka := zac gc ka
    replace kb := zac gc kb
    have Dc := zad Db gc
    clear gc
    obtain ⟨xz, hxz⟩ : ∃ X, X = xc := ⟨_, rfl⟩
    rw [← hxz]
    have Dz : Below W7.heap.size W7 xz := by rw [hxz]; exact Dc
    rw [← hxz] at ka
    rw [← hxz] at kb
    rw [← hxz] at kc
    clear hxz Da Db Dc
   case' o2_6 =>
    refine zby rfl rfl rfl (.slice (some ⟨xa.heap.size, 0, none⟩) 1 1) (xa.alloc (.cells (cc ⟨0, r⟩) 37)) (by go_simp) (zbm below1) ?_
    simp only [Act.put, List.setIfInBounds_toArray, List.set_cons_zero, List.set_cons_succ]
    have kc : SlE Ecc (xa.alloc (.cells (cc ⟨0, r⟩) 37)) (.slice (some ⟨xa.heap.size, 0, none⟩) 1 1) [⟨0, r⟩] := ze8 xa ⟨0, r⟩ _ rfl
    have ec : Value.ownBlock (.slice (some ⟨xa.heap.size, 0, none⟩) 1 1) ≠ some (w.heap.size + 1) := za9 (by have := Nat.lt_of_lt_of_le HLt.out Da.size; omega)
    have gc : Below xa.heap.size xa (xa.alloc (.cells (cc ⟨0, r⟩) 37)) := below1
    generalize xa.alloc (.cells (cc ⟨0, r⟩) 37) = xc at *
    obtain ⟨Tc, hTc⟩ : ∃ T, T = xa.heap.size := ⟨_, rfl⟩
    rw [← hTc] at kc ec ⊢
    clear hTc
    replace ka := zac gc ka
    have Dc := zad Da gc
    clear gc
    refine GX.branch1 4 (by kernel_rfl) ?_
    refine zby rfl rfl rfl (.slice (some ⟨xc.heap.size, 0, none⟩) 1 1) (xc.alloc (.cells #[.int .u64 0] 30)) (by go_simp) (zbm below1) ?_
    simp only [Act.put, List.setIfInBounds_toArray, List.set_cons_zero, List.set_cons_succ]
    have kb : SlE Enum (xc.alloc (.cells #[.int .u64 0] 30)) (.slice (some ⟨xc.heap.size, 0, none⟩) 1 1) [0] := zet xc (v := 0) (by decide) _ rfl
    have eb : Value.ownBlock (.slice (some ⟨xc.heap.size, 0, none⟩) 1 1) ≠ some (w.heap.size + 1) := za9 (by have := Nat.lt_of_lt_of_le HLt.out Dc.size; omega)
    have gb : Below xc.heap.size xc (xc.alloc (.cells #[.int .u64 0] 30)) := below1
    generalize xc.alloc (.cells #[.int .u64 0] 30) = xb at *
    obtain ⟨Tb, hTb⟩ : ∃ T, T = xc.heap.size := ⟨_, rfl⟩
    rw [← hTb] at kb eb ⊢
    clear hTb
    replace ka := zac gb ka
    replace kc := zac gb kc
    have Db := zad Dc gb
    clear gb
    obtain ⟨xz, hxz⟩ : ∃ X, X = xb := ⟨_, rfl⟩
    rw [← hxz]
    have Dz : Below W7.heap.size W7 xz := by rw [hxz]; exact Db
    rw [← hxz] at ka
    rw [← hxz] at kc
    rw [← hxz] at kb
    clear hxz Da Dc Db
  case' o4 =>
   refine zby rfl rfl rfl (.slice (some ⟨W7.drew.heap.size, 0, none⟩) 1 1) (W7.drew.alloc (.cells #[.int .u64 0] 30)) (by go_simp) (zbm below1) ?_
   simp only [Act.put, List.setIfInBounds_toArray, List.set_cons_zero, List.set_cons_succ]
   have kb : SlE Enum (W7.drew.alloc (.cells #[.int .u64 0] 30)) (.slice (some ⟨W7.drew.heap.size, 0, none⟩) 1 1) [0] := zet W7.drew (v := 0) (by decide) _ rfl
   have eb : Value.ownBlock (.slice (some ⟨W7.drew.heap.size, 0, none⟩) 1 1) ≠ some (w.heap.size + 1) := za9 (by have := Nat.lt_of_lt_of_le HLt.out D0.size; omega)
   have gb : Below W7.drew.heap.size W7.drew (W7.drew.alloc (.cells #[.int .u64 0] 30)) := below1
   generalize W7.drew.alloc (.cells #[.int .u64 0] 30) = xb at *
   obtain ⟨Tb, hTb⟩ : ∃ T, T = W7.drew.heap.size := ⟨_, rfl⟩
   rw [← hTb] at kb eb ⊢
   clear hTb
   have Db := zad D0 gb
   clear gb
   refine GX.branch2 2 6 (by kernel_rfl) ?o4_2 ?o4_6
   case' o4_2 =>
    refine zeu rfl rfl rfl rfl zct #[.slice pb nb cb] rfl ?_
    refine (zfh (.slice pb nb cb) bal xb (zac Db KB.out) (by have := HL.out; have := HN.out; omega)).mono ?_
    rintro e xa ⟨va, rfl, oa, ga⟩
    refine ⟨_, rfl, ga, ?_⟩
    simp only [Act.put, List.setIfInBounds_toArray, List.set_cons_zero, List.set_cons_succ]
    obtain ⟨⟨pa, na, ca⟩, rfl⟩ : ∃ s : SlV, va = sv s := by obtain ⟨p, c, rfl, _⟩ := zaf (zai oa); exact ⟨⟨p, _, c⟩, (zav _ _ _).symm⟩
    rw [zav] at oa ⊢
    have la : w.heap.size + 1 < xb.heap.size := Nat.lt_of_lt_of_le HLt.out Db.size
    have ea : Value.ownBlock (.slice pa na ca) ≠ some (w.heap.size + 1) := zgp oa la
    have ka := zai oa
    clear oa la
    replace kb := zac ga kb
    have Da := zad Db ga
    clear ga
    refine GX.branch1 6 (by kernel_rfl) ?_
    refine zby rfl rfl rfl (.slice (some ⟨xa.heap.size, 0, none⟩) 1 1) (xa.alloc (.cells (cc ⟨0, r⟩) 37)) (by go_simp) (zbm below1) ?_
    simp only [Act.put, List.setIfInBounds_toArray, List.set_cons_zero, List.set_cons_succ]
    have kc : SlE Ecc (xa.alloc (.cells (cc ⟨0, r⟩) 37)) (.slice (some ⟨xa.heap.size, 0, none⟩) 1 1) [⟨0, r⟩] := ze8 xa ⟨0, r⟩ _ rfl
    have ec : Value.ownBlock (.slice (some ⟨xa.heap.size, 0, none⟩) 1 1) ≠ some (w.heap.size + 1) := za9 (by have := Nat.lt_of_lt_of_le HLt.out Da.size; omega)
    have gc : Below xa.heap.size xa (xa.alloc (.cells (cc ⟨0, r⟩) 37)) := below1
    generalize xa.alloc (.cells (cc ⟨0, r⟩) 37) = xc at *
    obtain ⟨Tc, hTc⟩ : ∃ T, T = xa.heap.size := ⟨_, rfl⟩
    rw [← hTc] at kc ec ⊢
    clear hTc
    replace kb := zac gc kb
    replace ka := zac gc ka
    have Dc := zad Da gc
    clear gc
    obtain ⟨xz, hxz⟩ : ∃ X, X = xc := ⟨_, rfl⟩
    rw [← hxz]
    have Dz : Below W7.heap.size W7 xz := by rw [hxz]; exact Dc
    rw [← hxz] at kb
    rw [← hxz] at ka
    rw [← hxz] at kc
    clear hxz Db Da Dc
   case' o4_6 =>
    refine zby rfl rfl rfl (.slice (some ⟨xb.heap.size, 0, none⟩) 1 1) (xb.alloc (.cells (cc ⟨0, r⟩) 37)) (by go_simp) (zbm below1) ?_
    simp only [Act.put, List.setIfInBounds_toArray, List.set_cons_zero, List.set_cons_succ]
    have kc : SlE Ecc (xb.alloc (.cells (cc ⟨0, r⟩) 37)) (.slice (some ⟨xb.heap.size, 0, none⟩) 1 1) [⟨0, r⟩] := ze8 xb ⟨0, r⟩ _ rfl
    have ec : Value.ownBlock (.slice (some ⟨xb.heap.size, 0, none⟩) 1 1) ≠ some (w.heap.size + 1) := za9 (by have := Nat.lt_of_lt_of_le HLt.out Db.size; omega)
    have gc : Below xb.heap.size xb (xb.alloc (.cells (cc ⟨0, r⟩) 37)) := below1
    generalize xb.alloc (.cells (cc ⟨0, r⟩) 37) = xc at *
    obtain ⟨Tc, hTc⟩ : ∃ T, T = xb.heap.size := ⟨_, rfl⟩
    rw [← hTc] at kc ec ⊢
    clear hTc
    replace kb := zac gc kb
    have Dc := zad Db gc
    clear gc
    refine GX.branch1 2 (by kernel_rfl) ?_
    refine zeu rfl rfl rfl rfl zct #[.slice pb nb cb] rfl ?_
    refine (zfh (.slice pb nb cb) bal xc (zac Dc KB.out) (by have := HL.out; have := HN.out; omega)).mono ?_
    rintro e xa ⟨va, rfl, oa, ga⟩
    refine ⟨_, rfl, ga, ?_⟩
    simp only [Act.put, List.setIfInBounds_toArray, List.set_cons_zero, List.set_cons_succ]
    obtain ⟨⟨pa, na, ca⟩, rfl⟩ : ∃ s : SlV, va = sv s := by obtain ⟨p, c, rfl, _⟩ := zaf (zai oa); exact ⟨⟨p, _, c⟩, (zav _ _ _).symm⟩
    rw [zav] at oa ⊢
    have la : w.heap.size + 1 < xc.heap.size := Nat.lt_of_lt_of_le HLt.out Dc.size
    have ea : Value.ownBlock (.slice pa na ca) ≠ some (w.heap.size + 1) := zgp oa la
    have ka := zai oa
    clear oa la
    replace kb := zac ga kb
    replace kc := zac ga kc
    have Da := zad Dc ga
    clear ga
    obtain ⟨xz, hxz⟩ : ∃ X, X = xa := ⟨_, rfl⟩
    rw [← hxz]
    have Dz : Below W7.heap.size W7 xz := by rw [hxz]; exact Da
    rw [← hxz] at kb
    rw [← hxz] at kc
    rw [← hxz] at ka
    clear hxz Db Dc Da
  case' o6 =>
   refine zby rfl rfl rfl (.slice (some ⟨W7.drew.heap.size, 0, none⟩) 1 1) (W7.drew.alloc (.cells (cc ⟨0, r⟩) 37)) (by go_simp) (zbm below1) ?_
   simp only [Act.put, List.setIfInBounds_toArray, List.set_cons_zero, List.set_cons_succ]
   have kc : SlE Ecc (W7.drew.alloc (.cells (cc ⟨0, r⟩) 37)) (.slice (some ⟨W7.drew.heap.size, 0, none⟩) 1 1) [⟨0, r⟩] := ze8 W7.drew ⟨0, r⟩ _ rfl
   have ec : Value.ownBlock (.slice (some ⟨W7.drew.heap.size, 0, none⟩) 1 1) ≠ some (w.heap.size + 1) := za9 (by have := Nat.lt_of_lt_of_le HLt.out D0.size; omega)
   have gc : Below W7.drew.heap.size W7.drew (W7.drew.alloc (.cells (cc ⟨0, r⟩) 37)) := below1
   generalize W7.drew.alloc (.cells (cc ⟨0, r⟩) 37) = xc at *
   obtain ⟨Tc, hTc⟩ : ∃ T, T = W7.drew.heap.size := ⟨_, rfl⟩
   rw [← hTc] at kc ec ⊢
   clear hTc
   have Dc := zad D0 gc
   clear gc
   refine GX.branch2 2 4 (by kernel_rfl) ?o6_2 ?o6_4
   case' o6_2 =>
    refine zeu rfl rfl rfl rfl zct #[.slice pb nb cb] rfl ?_
    refine (zfh (.slice pb nb cb) bal xc (zac Dc KB.out) (by have := HL.out; have := HN.out; omega)).mono ?_
    rintro e xa ⟨va, rfl, oa, ga⟩
    refine ⟨_, rfl, ga, ?_⟩
    simp only [Act.put, List.setIfInBounds_toArray, List.set_cons_zero, List.set_cons_succ]
    obtain ⟨⟨pa, na, ca⟩, rfl⟩ : ∃ s : SlV, va = sv s := by obtain ⟨p, c, rfl, _⟩ := zaf (zai oa); exact ⟨⟨p, _, c⟩, (zav _ _ _).symm⟩
    rw [zav] at oa ⊢
    have la : w.heap.size + 1 < xc.heap.size := Nat.lt_of_lt_of_le HLt.out Dc.size
    have ea : Value.ownBlock (.slice pa na ca) ≠ some (w.heap.size + 1) := zgp oa la
    have ka := zai oa
    clear oa la
    replace kc := zac ga kc
    have Da := zad Dc ga
    clear ga
    refine GX.branch1 4 (by kernel_rfl) ?_
    refine zby rfl rfl rfl (.slice (some ⟨xa.heap.size, 0, none⟩) 1 1) (xa.alloc (.cells #[.int .u64 0] 30)) (by go_simp) (zbm below1) ?_
    simp only [Act.put, List.setIfInBounds_toArray, List.set_cons_zero, List.set_cons_succ]
    have kb : SlE Enum (xa.alloc (.cells #[.int .u64 0] 30)) (.slice (some ⟨xa.heap.size, 0, none⟩) 1 1) [0] := zet xa (v := 0) (by decide) _ rfl
    have eb : Value.ownBlock (.slice (some ⟨xa.heap.size, 0, none⟩) 1 1) ≠ some (w.heap.size + 1) := za9 (by have := Nat.lt_of_lt_of_le HLt.out Da.size; omega)
    have gb : Below xa.heap.size xa (xa.alloc (.cells #[.int .u64 0] 30)) := below1
    generalize xa.alloc (.cells #[.int .u64 0] 30) = xb at *
    obtain ⟨Tb, hTb⟩ : ∃ T, T = xa.heap.size := ⟨_, rfl⟩
    rw [← hTb] at kb eb ⊢
    clear hTb
    replace kc := zac gb kc
    replace ka := zac gb ka
    have Db := zad Da gb
    clear gb
    obtain ⟨xz, hxz⟩ : ∃ X, X = xb := ⟨_, rfl⟩
    rw [← hxz]
    have Dz : Below W7.heap.size W7 xz := by rw [hxz]; exact Db
    rw [← hxz] at kc
    rw [← hxz] at ka
    rw [← hxz] at kb
    clear hxz Dc Da Db
   case' o6_4 =>
    refine zby rfl rfl rfl (.slice (some ⟨xc.heap.size, 0, none⟩) 1 1) (xc.alloc (.cells #[.int .u64 0] 30)) (by go_simp) (zbm below1) ?_
    simp only [Act.put, List.setIfInBounds_toArray, List.set_cons_zero, List.set_cons_succ]
    have kb : SlE Enum (xc.alloc (.cells #[.int .u64 0] 30)) (.slice (some ⟨xc.heap.size, 0, none⟩) 1 1) [0] := zet xc (v := 0) (by decide) _ rfl
    have eb : Value.ownBlock (.slice (some ⟨xc.heap.size, 0, none⟩) 1 1) ≠ some (w.heap.size + 1) := za9 (by have := Nat.lt_of_lt_of_le HLt.out Dc.size; omega)
    have gb : Below xc.heap.size xc (xc.alloc (.cells #[.int .u64 0] 30)) := below1
    generalize xc.alloc (.cells #[.int .u64 0] 30) = xb at *
    obtain ⟨Tb, hTb⟩ : ∃ T, T = xc.heap.size := ⟨_, rfl⟩
    rw [← hTb] at kb eb ⊢
    clear hTb
    replace kc := zac gb kc
    have Db := zad Dc gb
    clear gb
    refine GX.branch1 2 (by kernel_rfl) ?_
    refine zeu rfl rfl rfl rfl zct #[.slice pb nb cb] rfl ?_
    refine (zfh (.slice pb nb cb) bal xb (zac Db KB.out) (by have := HL.out; have := HN.out; omega)).mono ?_
    rintro e xa ⟨va, rfl, oa, ga⟩
    refine ⟨_, rfl, ga, ?_⟩
    simp only [Act.put, List.setIfInBounds_toArray, List.set_cons_zero, List.set_cons_succ]
    obtain ⟨⟨pa, na, ca⟩, rfl⟩ : ∃ s : SlV, va = sv s := by obtain ⟨p, c, rfl, _⟩ := zaf (zai oa); exact ⟨⟨p, _, c⟩, (zav _ _ _).symm⟩
    rw [zav] at oa ⊢
    have la : w.heap.size + 1 < xb.heap.size := Nat.lt_of_lt_of_le HLt.out Db.size
    have ea : Value.ownBlock (.slice pa na ca) ≠ some (w.heap.size + 1) := zgp oa la
    have ka := zai oa
    clear oa la
    replace kc := zac ga kc
    replace kb := zac ga kb
    have Da := zad Db ga
    clear ga
    obtain ⟨xz, hxz⟩ : ∃ X, X = xa := ⟨_, rfl⟩
    rw [← hxz]
    have Dz : Below W7.heap.size W7 xz := by rw [hxz]; exact Da
    rw [← hxz] at kc
    rw [← hxz] at kb
    rw [← hxz] at ka
    clear hxz Dc Db Da
  all_goals
   refine GX.take2 8 rfl rfl rfl (by kernel_rfl) (by kernel_rfl) (by kernel_rfl) rfl hwB ?_
   (first | go_big_quiet_step (fail) | quiet_step (fail)); refine wpQuiet_nil ?_
   have me := zab Dz ME.out
   have yw := zay me (zak _)
   refine GX.branch1 9 (by kernel_rfl) ?_
   refine ze4 rfl rfl rfl (stA xz (.pointer (some ⟨w.heap.size + 1, 0, none⟩)) (.agg (en ⟨⟨s1⟩, ⟨pa, na, ca⟩, ⟨s2, (newV (nb : Int)).out⟩, ⟨some ⟨Tb, 0, none⟩, 1, 1⟩, ⟨none, 0, 0⟩, ⟨none, 0, 0⟩, ⟨some ⟨Tc, 0, none⟩, 1, 1⟩, ⟨0, r⟩, 0⟩))) (by (go_simp; first | done | rfl)) (zb7 (by kernel_rfl) (zao (Below.refl _ _) (Nat.le_refl _))) ?_
   simp only [Act.put]
   have HR : Hid (LaidG (stA xz (.pointer (some ⟨w.heap.size + 1, 0, none⟩)) (.agg (en ⟨⟨s1⟩, ⟨pa, na, ca⟩, ⟨s2, (newV (nb : Int)).out⟩, ⟨some ⟨Tb, 0, none⟩, 1, 1⟩, ⟨none, 0, 0⟩, ⟨none, 0, 0⟩, ⟨some ⟨Tc, 0, none⟩, 1, 1⟩, ⟨0, r⟩, 0⟩))) ⟨⟨s1⟩, ⟨pa, na, ca⟩, ⟨s2, (newV (nb : Int)).out⟩, ⟨some ⟨Tb, 0, none⟩, 1, 1⟩, ⟨none, 0, 0⟩, ⟨none, 0, 0⟩, ⟨some ⟨Tc, 0, none⟩, 1, 1⟩, ⟨0, r⟩, 0⟩ (newG r bal)) := by have := z42 me (zac Dz K1.out) (zac Dz K2.out) (sb := ⟨pa, na, ca⟩) (sw := ⟨some ⟨Tb, 0, none⟩, 1, 1⟩) (sj := ⟨some ⟨Tc, 0, none⟩, 1, 1⟩) (by rw [zav]; exact ka) (by rw [zav]; exact ea) (by rw [zav]; exact kb) (by rw [zav]; exact eb) (by rw [zav]; exact kc) (by rw [zav]; exact ec) (.agg (en ⟨⟨s1⟩, ⟨pa, na, ca⟩, ⟨s2, (newV (nb : Int)).out⟩, ⟨some ⟨Tb, 0, none⟩, 1, 1⟩, ⟨none, 0, 0⟩, ⟨none, 0, 0⟩, ⟨some ⟨Tc, 0, none⟩, 1, 1⟩, ⟨0, r⟩, 0⟩)); rw [HL.out] at this; exact this
   have HM : Hid ((stA xz (.pointer (some ⟨w.heap.size + 1, 0, none⟩)) (.agg (en ⟨⟨s1⟩, ⟨pa, na, ca⟩, ⟨s2, (newV (nb : Int)).out⟩, ⟨some ⟨Tb, 0, none⟩, 1, 1⟩, ⟨none, 0, 0⟩, ⟨none, 0, 0⟩, ⟨some ⟨Tc, 0, none⟩, 1, 1⟩, ⟨0, r⟩, 0⟩))).heap[w.heap.size + 1]? = some (.cells (en ⟨⟨s1⟩, ⟨pa, na, ca⟩, ⟨s2, (newV (nb : Int)).out⟩, ⟨some ⟨Tb, 0, none⟩, 1, 1⟩, ⟨none, 0, 0⟩, ⟨none, 0, 0⟩, ⟨some ⟨Tc, 0, none⟩, 1, 1⟩, ⟨0, r⟩, 0⟩) 39 (0, 0))) := by show _ = _; rw [zbe me (by rw [zak, zak]; decide)]; congr 2; exact zek (by rw [zak, zak])
   have HZ : Hid (Below w.heap.size w (stA xz (.pointer (some ⟨w.heap.size + 1, 0, none⟩)) (.agg (en ⟨⟨s1⟩, ⟨pa, na, ca⟩, ⟨s2, (newV (nb : Int)).out⟩, ⟨some ⟨Tb, 0, none⟩, 1, 1⟩, ⟨none, 0, 0⟩, ⟨none, 0, 0⟩, ⟨some ⟨Tc, 0, none⟩, 1, 1⟩, ⟨0, r⟩, 0⟩)))) := zao (zad A0.out Dz) (by omega)
   clear yw
   refine GX.take2 10 rfl rfl rfl (by kernel_rfl) (by kernel_rfl) (by kernel_rfl) rfl hwB ?_
   (first | go_big_quiet_step (fail) | quiet_step (fail)); refine wpQuiet_nil ?_
   refine GX.nil (by kernel_rfl) ?_
   clear Q0 Q1 Q2 hwB
   go_wp2_with fail
   exact bodyPost_ret (v := .tuple #[.agg (en _), .bool true]) (zaj Tryz.isAgg39 Tryz.sizeOf39 _ 4 5 rfl _ _ _ _ _ rfl rfl (zae HM.out (zak _))) rfl ⟨_, rfl, by rw [HG.out]; exact HR.out, HZ.out⟩
theorem z6w (r : Rt) (v : Value) (bal : List UInt64) (w : World) (h : SlE Enum w v bal) (hn : bal.length ≤ 1000) :
  Calls Tryz.prog 11 #[.agg (rc r), v] w (EgOk (if mayB bal = true then newG r bal else zor) (mayB bal) w) := by
 have k := h
 obtain ⟨p, c, rfl, _⟩ := zaf h
 exact zx2 r p _ c bal w k rfl hn
end
structure AaV (W : World) (T : Nat) (a : Aa) : Prop where
 val : W.cell? ⟨T, 0, none⟩ = some (.int .i64 a.val)
 slot : W.cell? ⟨T, 1, none⟩ = some (.int .u64 (a.slot.toNat : Int))
 head : ldA W (.pointer (some ⟨T, 2, none⟩)) 32 = some (rc a.head)
 src : ldA W (.pointer (some ⟨T, 34, none⟩)) 33 = some (cc a.source)
 se : W.cell? ⟨T, 34, none⟩ = some (.int .u64 (a.source.epoch.toNat : Int))
 sr : ldA W (.pointer (some ⟨T, 35, none⟩)) 32 = some (rc a.source.root)
 tgt : ldA W (.pointer (some ⟨T, 67, none⟩)) 33 = some (cc a.target)
 te : W.cell? ⟨T, 67, none⟩ = some (.int .u64 (a.target.epoch.toNat : Int))
 tr : ldA W (.pointer (some ⟨T, 68, none⟩)) 32 = some (rc a.target.root)
 all : ldA W (.pointer (some ⟨T, 0, none⟩)) 100 = some (aa a)
theorem aa_v {W : World} {T : Nat} {a : Aa} (h : W.heap[T]? = some (.cells (aa a) 62 (0, 0))) : AaV W T a :=
 ⟨z6s h, zka h, z0x h, zwn h, zkk h, zmc h, zwd h, zj7 h, zk9 h, zae h (zf1 a)⟩
theorem yar {g : Eg} {a : Aa} (h : ¬ (0 ≤ a.val ∧ a.val < g.bal.length)) : fitG g a = 10 := by unfold fitG; rw [if_neg h]
theorem ya7 {g : Eg} {a : Aa} (h : 0 ≤ a.val ∧ a.val < g.bal.length) (h1 : ¬ (0 ≤ za2 g.t a.head ∧ 0 ≤ za2 g.t a.source.root ∧ 0 ≤ za2 g.t a.target.root)) : fitG g a = 5 := by
 unfold fitG
 rw [if_pos h, if_neg]
 rw [zio, zio, zio]; exact h1
theorem yh5 {g : Eg} {a : Aa} (h : 0 ≤ a.val ∧ a.val < g.bal.length) (h1 : 0 ≤ za2 g.t a.head ∧ 0 ≤ za2 g.t a.source.root ∧ 0 ≤ za2 g.t a.target.root) : fitG g a = if a.source.epoch.toNat < a.target.epoch.toNat ∧ zdh g.t (za2 g.t a.source.root) (za2 g.t a.target.root) = true ∧ zdh g.t (za2 g.t a.target.root) (za2 g.t a.head) = true then 0 else 9 := by
 unfold fitG
 rw [if_pos h, if_pos]
 rw [zio, zio, zio]; exact h1
theorem ylc {g : Eg} {a : Aa} (h : znm g a ≠ 0) : ctG g a = g := if_neg h
theorem ykg {g : Eg} {a : Aa} (h : znm g a = 0) : ctG g a = { g with k := ctK g a, v := ctV g a, w := wtsL g.t (ctV g a) g.bal, j := ctJ g a, fin := ze5 g.t (ctK g a) g.bal (ctJ g a) g.fin } := if_pos h
theorem ylf {g : Eg} (h : zlo g ≠ 0) : prG g = g := if_neg h
theorem yj7 {g : Eg} (h : zlo g = 0) : prG g = { g with t := prT g, v := prV g, w := wtsL (prT g) (prV g) g.bal, k := g.k.filter (zuz (prT g) g.fin), j := g.j.filter (z5n (prT g) g.fin) } := if_pos h
theorem zw7 {g : Eg} (h : mayG g = false) : zlo g = 1 := by unfold zlo; rw [h]; exact if_neg (by decide)
theorem z4w {g : Eg} (h : mayG g = true) : zlo g = 0 := by unfold zlo; rw [if_pos h]
theorem z7b {l : List Nd} {k : Nat} (h : k < l.length) : (l.take (k + 1)).map Nd.root = (l.take k).map Nd.root ++ [(nd l k).root] := by
 rw [List.take_succ_eq_append_getElem h, List.map_append]
 unfold nd
 simp [h]
theorem zxn {g : Eg} (h : zfy g ≠ 0) : zog g = g := if_neg h
theorem yhp {g : Eg} (h : zfy g = 0) : zog g = (dueL g.late (g.now.toNat + 1)).foldl oneG (upG g) := if_pos h
theorem zyk {g : Eg} (h : mayG g = false) : zfy g = 1 := by unfold zfy; rw [h]; exact if_neg (by decide)
theorem z6f {g : Eg} (h : mayG g = true) (hn : g.now.toNat = 1099511627776) : zfy g = 3 := by unfold zfy; rw [if_pos h, if_pos hn]
theorem yjh {g : Eg} (h : mayG g = true) (hn : ¬ g.now.toNat = 1099511627776) : zfy g = 0 := by unfold zfy; rw [if_pos h, if_neg hn]
def tkE (g : Eg) (k : Nat) : Eg := ((dueL g.late (g.now.toNat + 1)).take k).foldl oneG (upG g)
theorem yis (g : Eg) : tkE g 0 = upG g := rfl
theorem ye1 {g : Eg} {k : Nat} (h : k < (dueL g.late (g.now.toNat + 1)).length) : tkE g (k + 1) = oneG (tkE g k) (att (dueL g.late (g.now.toNat + 1)) k) := by
 unfold tkE
 rw [List.take_succ_eq_append_getElem h, List.foldl_append, zlj h]; rfl
theorem yld {g : Eg} (h : zfy g = 0) : tkE g (dueL g.late (g.now.toNat + 1)).length = zog g := by
 unfold tkE
 rw [List.take_length, yhp h]
theorem yl3 {g : Eg} (h : MayS' g) (hn : zfy g = 0) (k : Nat) : MayS' (tkE g k) := yp2 _ (up_G h (ztz hn).2)
theorem you {g : Eg} (h : MayS' g) (hn : zfy g = 0) (k : Nat) : (tkE g k).j.length ≤ g.j.length + 96 := by
 have h1 := yhu ((dueL g.late (g.now.toNat + 1)).take k) (up_G h (ztz hn).2)
 have h2 := yef (l := g.late) (now := g.now.toNat + 1)
 have h3 := (zff.1 h.late).1
 have h4 : ((dueL g.late (g.now.toNat + 1)).take k).length ≤ (dueL g.late (g.now.toNat + 1)).length := by rw [List.length_take]; omega
 have h5 : (upG g).j.length = g.j.length := rfl
 unfold tkE
 omega
theorem zl9 {g : Eg} {b : Bk} (h : zf8 g b ≠ 0) : blkG g b = g := if_neg h
theorem ymb {g : Eg} {b : Bk} (h : zf8 g b = 0) : blkG g b = { g with t := insL g.t b.root b.parent b.slot b.just, w := g.w ++ [0] } := if_pos h
theorem zl8 {g : Eg} {b : Bk} (h : mayG g = false) : zf8 g b = 1 := by unfold zf8; rw [h]; exact if_neg (by decide)
theorem yaq {g : Eg} {b : Bk} (h : mayG g = true) (hn : g.now.toNat < b.slot.toNat) : zf8 g b = 7 := by unfold zf8; rw [if_pos h, if_pos hn]
theorem z9b {g : Eg} {b : Bk} (h : mayG g = true) (hn : ¬ g.now.toNat < b.slot.toNat) (hi : insE g.t b.root b.parent b.slot ≠ 0) : zf8 g b = insE g.t b.root b.parent b.slot := by unfold zf8; rw [if_pos h, if_neg hn, if_neg hi]
theorem yb2 {g : Eg} {b : Bk} (h : mayG g = true) (hn : ¬ g.now.toNat < b.slot.toNat) (hi : insE g.t b.root b.parent b.slot = 0) : zf8 g b = if zdh (insL g.t b.root b.parent b.slot b.just) (za2 g.t g.fin.root) g.t.length = true then 0 else 8 := by unfold zf8; rw [if_pos h, if_neg hn, if_pos hi]
theorem z5b {g : Eg} {a : Aa} (h : mayG g = false) : attG g a = g ∧ zik g a = 1 := by
 unfold attG zik
 rw [h]
 exact ⟨if_neg (fun e => by cases e.1), if_neg (by decide)⟩
theorem yhk {g : Eg} {a : Aa} (h : mayG g = true) (hf : fitG g a ≠ 0) : attG g a = g ∧ zik g a = fitG g a := by
 unfold attG zik
 rw [if_neg (fun e => hf e.2), if_pos h, if_neg hf]
 exact ⟨rfl, rfl⟩
theorem yio {g : Eg} {a : Aa} (h : mayG g = true) (hf : fitG g a = 0) (hn : a.slot.toNat < g.now.toNat) : attG g a = ctG g a ∧ zik g a = znm g a := by
 unfold attG zik
 rw [if_pos ⟨h, hf⟩, if_pos hn, if_pos h, if_pos hf, if_pos hn]
 exact ⟨rfl, rfl⟩
theorem yec {g : Eg} {a : Aa} (h : mayG g = true) (hf : fitG g a = 0) (hn : ¬ a.slot.toNat < g.now.toNat) : attG g a = { g with late := putA g.late a } ∧ zik g a = putE g.late a := by
 unfold attG zik
 rw [if_pos ⟨h, hf⟩, if_neg hn, if_pos h, if_pos hf, if_neg hn]
 exact ⟨rfl, rfl⟩
theorem yp5 {g : Eg} (h : mayG g = false) : ∀ c : Cmd, doG g c = g ∧ zhx g c = 1
 | .block b => ⟨zl9 (by rw [zl8 h]; decide), zl8 h⟩
 | .att a => z5b h
 | .tick => ⟨zxn (by rw [zyk h]; decide), zyk h⟩
 | .prune => ⟨ylf (by rw [zw7 h]; decide), zw7 h⟩
 | .form => ⟨rfl, by unfold zhx; rw [h]; exact if_neg (by decide)⟩
 | .other => ⟨rfl, rfl⟩
theorem z76 (p q : Option Addr) (n m cl ck : Nat) (w : World) (hl : n ≠ m) :
  Calls Tryz.prog 86 #[.slice p n cl, .slice q m ck] w fun e w' => e = .returned (.bool false) ∧ Below w.heap.size w w' := by
 have e1 : ((n : Int) == (m : Int)) = false := by simp; omega
 clear hl
 go_enter Tryz.func86, Tryz.ntmps86
 go_wp2_with fail
 go_ret
 exact ⟨rfl, Below.refl _ _⟩
theorem z6c (p q : Option Addr) (n cl ck : Nat) (l k : List Nd) (w : World) (h : SlE Ene w (.slice p n cl) l) (h' : SlE Ene w (.slice q n ck) k) (hl : l.length = n) (hk : k.length = n) (hn : n ≤ 1000) :
  Calls Tryz.prog 86 #[.slice p n cl, .slice q n ck] w fun e w' => e = .returned (.bool (decide (l = k))) ∧ Below w.heap.size w w' := by
 have HS := Lib.hid h
 have HT := Lib.hid h'
 have HL := Lib.hid hl
 have HK := Lib.hid hk
 have HN := Lib.hid hn
 obtain ⟨r, hr⟩ : ∃ r, r = decide (l = k) := ⟨_, rfl⟩
 rw [← hr]
 have HR := Lib.hid hr
 clear h h' hl hk hn hr
 go_enter Tryz.func86, Tryz.ntmps86
 go_wp2_with fail
 go_loopw [5, 13] (fun _ i wr => ∃ j : Nat, j ≤ n ∧ i = .int .i64 j ∧ (∀ x, x < j → nd l x = nd k x) ∧ Below w.heap.size w wr) (fun _ i _ => n - (intOf i).toNat)
 case atStart => exact ⟨0, Nat.zero_le _, rfl, fun x hx => absurd hx (Nat.not_lt_zero _), Below.refl _ _⟩
 case round =>
  obtain ⟨j, hj, rfl, hx, hb⟩ := hrel
  have HX := Lib.hid hx
  have HB := Lib.hid hb
  clear hx hb
  by_cases hlt : j < n
  ·
   have i0 : (0 : Int) ≤ (j : Int) := by omega
   have i1 : (j : Int) < (n : Int) := by omega
   have u1 : (j : Int) + 1 < 10000 := by have := HN.out; omega
   obtain ⟨b1, o1, c1, e1, _, q1, x1⟩ := zce HS.out (by have := HL.out; omega)
   injection e1 with e2 _ e3
   subst e2 e3
   obtain ⟨b2, o2, c2, e1, _, q2, x2⟩ := zce HT.out (by have := HK.out; omega)
   injection e1 with e2 _ e3
   subst e2 e3
   have y1 : ldA wr (.pointer (some ⟨b1, o1 + j * 35, none⟩)) 35 = some (ne (nd l j)) := keep HB.out (zpp x1 (by have := HL.out; omega))
   have y2 : ldA wr (.pointer (some ⟨b2, o2 + j * 35, none⟩)) 35 = some (ne (nd k j)) := keep HB.out (zpp x2 (by have := HK.out; omega))
   clear x1 x2 q1 q2
   by_cases he : nd l j = nd k j
   ·
    have HE := Lib.hid he
    rw [he] at y1
    clear he
    go_wp2_with fail
    go_quiet (fail)
    go_wp2_with fail
    go_roundw
    case rel => exact ⟨j + 1, by omega, by go_num, fun x hx => by
     rcases Nat.lt_succ_iff_lt_or_eq.1 hx with h | rfl
     ·
      exact HX.out x h
     ·
      exact HE.out, zar HB.out _⟩
    case measure => simp [intOf]; omega
   ·
    have hR : Hid (r = false) := by
     show r = false
     rw [HR.out, decide_eq_false_iff_not]
     intro e; exact he (by rw [e])
    have t1 : decide (nd l j = nd k j) = false := decide_eq_false he
    clear he
    go_wp2_with fail
    go_quiet (fail)
    go_wp2_with fail
    go_ret
    exact ⟨by rw [hR.out]; first | done | rfl, zar HB.out _⟩
  ·
   obtain rfl : j = n := by omega
   have hR : Hid (r = true) := by
    show r = true
    rw [HR.out, decide_eq_true_iff]
    exact yjy (by rw [HL.out, HK.out]) fun i hi => HX.out i (by have := HK.out; omega)
   go_wp2_with fail
   go_ret
   exact ⟨by rw [hR.out]; first | done | rfl, HB.out⟩
theorem z15 (s t : SlV) (l k : List Nd) (w : World) (h : SlE Ene w (sv s) l) (h' : SlE Ene w (sv t) k) (hn : l.length ≤ 1000) :
  Calls Tryz.prog 86 #[sv s, sv t] w fun e w' => e = .returned (.bool (decide (l = k))) ∧ Below w.heap.size w w' := by
 have hs := zc6 h
 have ht := zc6 h'
 obtain ⟨p, n, cl⟩ := s
 obtain ⟨q, m, ck⟩ := t
 dsimp only at hs ht
 by_cases e : n = m
 ·
  subst e
  exact z6c p q n cl ck l k w h h' hs ht (by omega)
 ·
  rw [decide_eq_false (fun he => e (by rw [← hs, ← ht, he]))]
  exact z76 p q n m cl ck w e
theorem yin (s t : SlV) (l k : List Nd) (w : World) (h : SlE Ene w (sv s) l) (h' : SlE Ene w (sv t) k) (hn : l.length ≤ 1000) :
  Calls Tryz.prog 53 #[.agg (tr ⟨s⟩), .agg (tr ⟨t⟩)] w fun e w' => e = .returned (.bool (decide (l = k))) ∧ Below w.heap.size w w' := by
 have HC := Lib.hid (fun W (g : Below w.heap.size w W) => z15 s t l k W (zac g h) (zac g h') hn)
 have HB : Hid (Below w.heap.size w ((w.alloc (.cells (tr ⟨s⟩) 28)).alloc (.cells (tr ⟨t⟩) 28))) := zad below1 below1
 obtain ⟨r, hr⟩ : ∃ r, r = decide (l = k) := ⟨_, rfl⟩
 rw [← hr] at HC ⊢
 clear h h' hn hr
 obtain ⟨p, n, cp⟩ := s
 obtain ⟨q, m, cq⟩ := t
 go_enter Tryz.func53, Tryz.ntmps53
 go_wp2_with fail
 refine (HC.out _ HB.out).mono ?_
 rintro e w1 ⟨rfl, g1⟩
 have G1 := Lib.hid g1
 clear g1
 go_wp2_with fail
 go_ret
 exact ⟨rfl, zad HB.out G1.out⟩
end Go.Proofs.YtmihlihlpdkdcaaGreat
