import Derived.Test.YtmihlihlpdkdcaaGreatK35
import Derived.Test.YtmihlihlpdkdcaaGreatQ08
import Derived.Test.YtmihlihlpdkdcaaGreatQ10
import Derived.Test.YtmihlihlpdkdcaaGreatK32
import Derived.Test.YtmihlihlpdkdcaaGreatK34
import Derived.Deep.Cut
import Derived.Deep.CutRange
import Derived.Deep.RegionLaw
import Derived.Laws.Cover3
import Derived.Test.YtmihlihlpdkdcaaGreatK33
import Derived.Test.YtmihlihlpdkdcaaGreatK19
import Derived.Test.YtmihlihlpdkdcaaGreatK15
import Derived.Test.YtmihlihlpdkdcaaGreatK17
import Derived.Test.YtmihlihlpdkdcaaGreatK25
import Derived.Test.YtmihlihlpdkdcaaGreatK14
import Derived.Test.YtmihlihlpdkdcaaGreatK18
namespace Go.Proofs.YtmihlihlpdkdcaaGreat
open Go.RowKit
set_option maxRecDepth 200000
set_option maxHeartbeats 64000000
theorem z1p (l : List UInt8) : ∀ j : Nat, (zan Ebyt l)[j]? = (l[j]?).map byv := by
 induction l with
 | nil => intro j; rfl
 | cons a l ih =>
  intro j
  rw [zec]
  cases j with
  | zero => rfl
  | succ j => exact ih j
theorem yos {l : List UInt8} {i : Nat} (h : i < l.length) : byv l[i] = .int .u8 (bt l i) := by
 unfold byv bt
 rw [zdc _ h]
theorem yuy {w : World} {v : Value} {l : List UInt8} (h : SlB w v l) : SlE Ebyt w v l := by
 obtain ⟨p, cap, rfl, hc, hr⟩ := h
 refine ⟨p, cap, rfl, hc, hr.imp id ?_⟩
 rintro ⟨b, off, rfl, hb, hi⟩
 refine ⟨b, off, rfl, hb, fun j u hu => ?_⟩
 rw [z1p] at hu
 have hj : j < l.length := by
  refine Classical.byContradiction fun hn => ?_
  rw [List.getElem?_eq_none (by omega)] at hu
  cases hu
 rw [List.getElem?_eq_getElem hj] at hu
 rw [hi j hj, ← yos hj]
 exact hu
theorem yoy {w : World} {v : Value} {l : List UInt8} (h : SlE Ebyt w v l) : SlB w v l := by
 obtain ⟨p, cap, rfl, hc, hr⟩ := h
 refine ⟨p, cap, rfl, hc, hr.imp id ?_⟩
 rintro ⟨b, off, rfl, hb, hi⟩
 refine ⟨b, off, rfl, hb, fun i hl => ?_⟩
 rw [← yos hl]
 exact hi i _ (by rw [z1p, List.getElem?_eq_getElem hl]; rfl)
def toBk (b : BlkO) : Bk := ⟨b.root, b.parent, b.slot, b.just⟩
def ofBk (b : Bk) : BlkO := ⟨b.root, b.parent, b.slot, b.just⟩
def toCk (c : CkO) : Ck := ⟨c.epoch, c.root⟩
def toAa (a : AtO) : Aa := ⟨a.val, a.slot, a.head, toCk a.source, toCk a.target⟩
theorem ywf (b : BlkO) : bcO b = bk (toBk b) := by
 apply Array.toList_inj.1
 rw [ycv]
 unfold bcO bkL
 simp [toBk, num, numO]
theorem yxy (a : AtO) : acO a = aa (toAa a) := by
 apply Array.toList_inj.1
 rw [zx1]
 unfold acO aaL
 simp [toAa, toCk, num, numO, zb3, ccL, ccO]
theorem zwx : ∀ k m, dgsO k m = dgsY k m
 | 0, _ => rfl
 | k + 1, m => by rw [dgsO, dgsY, zwx k]
theorem yf7 (b : Bk) : ya1 (ofBk b) = zjy b := by
 unfold ya1 zjy zga zop
 rw [zwx, zwx]
 rfl
theorem yi2 (l : List UInt8) : toBk (zr7 l) = zzm l := by
 have e : isBO l = isBY l := rfl
 unfold zr7 zzm
 rw [e]
 split <;> rfl
theorem ymv (l : List UInt8) : toAa (zrt l) = z0l l := by
 have e : isAO l = isAY l := rfl
 unfold zrt z0l
 rw [e]
 split <;> rfl
theorem yk6 (b : Bk) (w : World) : Calls Tryz.prog 30 #[.agg (bk b)] w fun e w' => ∃ s : SlV, e = .returned (sv s) ∧ SlE Ebyt w' (sv s) (zjy b) ∧ Below w.heap.size w w' := by
 have h := zy7 (ofBk b) w
 rw [ywf, show toBk (ofBk b) = b from rfl, yf7] at h
 refine h.mono ?_
 rintro e w' ⟨v, rfl, hv, g⟩
 have hv' := yuy hv
 obtain ⟨p, c, rfl, _⟩ := zaj hv'
 refine ⟨⟨p, _, c⟩, by rw [zat], by rw [zat]; exact hv', g⟩
theorem yar (v : Value) (l : List UInt8) (w : World) (h : SlE Ebyt w v l) : Calls Tryz.prog 113 #[v] w fun e w' => e = .returned (.tuple #[.agg (bk (zzm l)), .bool (isBY l)]) ∧ Below w.heap.size w w' := by
 refine (z93 v l w (yoy h)).mono ?_
 rintro e w' ⟨rfl, g⟩
 exact ⟨by rw [ywf, yi2]; rfl, g⟩
theorem ykw (v : Value) (l : List UInt8) (w : World) (h : SlE Ebyt w v l) : Calls Tryz.prog 114 #[v] w fun e w' => e = .returned (.tuple #[.agg (aa (z0l l)), .bool (isAY l)]) ∧ Below w.heap.size w w' := by
 refine (ylx v l w (yoy h)).mono ?_
 rintro e w' ⟨rfl, g⟩
 exact ⟨by rw [yxy, ymv]; rfl, g⟩
theorem yoc {W : World} {T : Nat} {c : Cl} {t : TypeId} (h : W.heap[T]? = some (.cells (cl c) t (0, 0))) : W.cell? ⟨T, 1, none⟩ = some (sv c.raw) := zkn h
theorem z9p {g : Eg} {l : List UInt8} (m : MayS' g) : (isBY l = false → doG g (zcd 0 l) = g ∧ zfs g (zcd 0 l) = 2) ∧ (isBY l = true → doG g (zcd 0 l) = blkG g (zul l) ∧ zfs g (zcd 0 l) = ze6 g (zul l)) := by
 have e0 : zcd 0 l = if isBY l = true then .block (zul l) else .form := if_pos rfl
 rw [e0]
 refine ⟨fun e => ?_, fun e => ?_⟩
 ·
  rw [e, if_neg (by decide)]
  exact ⟨rfl, if_pos (zdu.2 m)⟩
 ·
  rw [if_pos e]
  exact ⟨rfl, rfl⟩
theorem yl5 {g : Eg} {l : List UInt8} (m : MayS' g) : (isAY l = false → doG g (zcd 1 l) = g ∧ zfs g (zcd 1 l) = 2) ∧ (isAY l = true → doG g (zcd 1 l) = attG g (zzr l) ∧ zfs g (zcd 1 l) = zft g (zzr l)) := by
 have e0 : zcd 1 l = if isAY l = true then .att (zzr l) else .form := rfl
 rw [e0]
 refine ⟨fun e => ?_, fun e => ?_⟩
 ·
  rw [e, if_neg (by decide)]
  exact ⟨rfl, if_pos (zdu.2 m)⟩
 ·
  rw [if_pos e]
  exact ⟨rfl, rfl⟩
theorem yk9 {l : List UInt8} (h : isBY l = true) : zzm l = zul l := if_pos h
theorem ylu {l : List UInt8} (h : isAY l = true) : z0l l = zzr l := if_pos h
theorem z5f (c : Cl) (l : List UInt8) (x : En) (g : Eg) (B : Nat) (w : World) (h : OwnG w B x g) (hBw : B ≤ w.heap.size) (m : MayS' g) (sg : zbz g) (hl : SlE Ebyt w (sv c.raw) l) :
  Calls Tryz.prog 82 #[.agg (cl c), .agg (en x)] w (EgErB (doG g (zcd 0 l)) (zfs g (zcd 0 l)) B w) := by
 obtain ⟨W0, hW0⟩ : ∃ W0, W0 = ((w.alloc (.cells (cl c) 96)).alloc (.cells (en x) 39)).alloc (.cells (en zen) 39) := ⟨_, rfl⟩
 obtain ⟨hB, qc, q0, q2, _⟩ := zfw w _ _ _ _ _ _ W0 hW0
 have A : Hid (Gp w x g (w.heap.size + 2) W0 (w.heap.size + 1) x g) := zfx h.laid hB q0 ⟨_, q2⟩ (by omega) (by omega) (by omega)
 have HW := Lib.hid hW0
 have HO := Lib.hid h
 have HBw := Lib.hid hBw
 have HWi := Lib.hid (yar (sv c.raw) l W0 (zac hB hl))
 have HF := Lib.hid (z9p (g := g) (l := l) m)
 obtain ⟨G, hG⟩ : ∃ G, G = doG g (zcd 0 l) := ⟨_, rfl⟩
 obtain ⟨R, hR⟩ : ∃ R, R = zfs g (zcd 0 l) := ⟨_, rfl⟩
 rw [← hG, ← hR] at HF ⊢
 have HPu := Lib.hid (fun W (b : Below w.heap.size w W) => (zu0 x g (zul l) B W (h.keep b) (Nat.le_trans hBw b.size) m sg))
 obtain ⟨is, his⟩ : ∃ b, b = isBY l := ⟨_, rfl⟩
 have HBl := Lib.hid (yk9 (l := l))
 rw [← his] at HWi HF HBl
 generalize zzm l = bb at HWi HBl
 generalize zul l = bg at HF HPu HBl
 obtain ⟨T, hT⟩ : ∃ T, T = w.heap.size + 1 := ⟨_, rfl⟩
 obtain ⟨Q, hQ⟩ : ∃ Q, Q = w.heap.size + 2 := ⟨_, rfl⟩
 have HTQ : Hid (T = w.heap.size + 1 ∧ Q = w.heap.size + 2) := ⟨hT, hQ⟩
 rw [← hQ, ← hT] at A
 have zc : W0.cell? ⟨w.heap.size, 1, none⟩ = some (sv c.raw) := yoc qc
 clear hW0 hB qc q0 q2 h hBw m sg hl hG hR his
 go_enter Tryz.func82, Tryz.ntmps82
 go_upto_region 1 with fail
 rw [← HW.out, ← hQ, ← hT]
 clear hT hQ
 go_wp2_with fail
 refine HWi.out.mono ?_
 rintro e w1 ⟨rfl, gg⟩
 replace A := Lib.hid (A.out.keep gg)
 clear gg zc HWi
 go_upto_region 2 with fail
 obtain ⟨w2, hw2⟩ : ∃ w2, w2 = w1.alloc (.cells (bk bb) 69) := ⟨_, rfl⟩
 rw [← hw2]
 have gg : Below w1.heap.size w1 w2 := by rw [hw2]; exact below1
 have X6 : Hid (w2.heap[w1.heap.size]? = some (.cells (bk bb) 69 (0, 0))) := by show _ = _; rw [hw2]; exact heap_alloc_last _ _
 replace A := Lib.hid (A.out.keep gg)
 clear gg hw2
 cases is
 ·
  have HH := Lib.hid (HF.out.1 rfl)
  have z := A.out.s.v.z
  have wr := A.out.wrR
  go_wp2_with fail
  have EE := (A.out.ret 2).b HBw.out (fun U hU => HO.out.far hU)
  rw [HH.out.1, HH.out.2]
  exact bodyPost_ret (zal Tryz.isAgg39 Tryz.sizeOf39 _ 4 5 rfl _ _ _ _ _ rfl rfl A.out.out) rfl EE
 have HH := Lib.hid (HF.out.2 rfl)
 have hb := HBl.out (by first | rfl | trivial)
 subst hb
 have HP2 := Lib.hid (HPu.out w2 A.out.s.bw)
 rw [← HH.out.1, ← HH.out.2] at HP2
 have z := A.out.s.v.z
 have z6 := zaf X6.out (zhr _)
 go_wp2_with fail
 refine HP2.out.mono ?_
 rintro e w3 ⟨y, rfl, ly, gg, fy⟩
 have EE := A.out.eb HBw.out ly gg fy R
 have wr := A.out.ebw fy
 have oo := Lib.hid (A.out.ebo fy)
 have HE := Lib.hid EE
 clear ly gg fy z z6 EE
 go_wp2_with fail
 exact bodyPost_ret (zal Tryz.isAgg39 Tryz.sizeOf39 _ 4 5 rfl _ _ _ _ _ rfl rfl oo.out) rfl HE.out
theorem znn : ∀ args w, (callFunc 82 args).run Tryz.prog w = .ok (.enter 82 args) w := zbb Tryz.func82 (by kernel_rfl) (by kernel_rfl)
theorem yge (c : Cl) (l : List UInt8) (x : En) (g : Eg) (B : Nat) (w : World) (h : OwnG w B x g) (hBw : B ≤ w.heap.size) (m : MayS' g) (sg : zbz g) (hl : SlE Ebyt w (sv c.raw) l) :
  Calls Tryz.prog 83 #[.agg (cl c), .agg (en x)] w (EgErB (doG g (zcd 1 l)) (zfs g (zcd 1 l)) B w) := by
 obtain ⟨W0, hW0⟩ : ∃ W0, W0 = ((w.alloc (.cells (cl c) 96)).alloc (.cells (en x) 39)).alloc (.cells (en zen) 39) := ⟨_, rfl⟩
 obtain ⟨hB, qc, q0, q2, _⟩ := zfw w _ _ _ _ _ _ W0 hW0
 have A : Hid (Gp w x g (w.heap.size + 2) W0 (w.heap.size + 1) x g) := zfx h.laid hB q0 ⟨_, q2⟩ (by omega) (by omega) (by omega)
 have HW := Lib.hid hW0
 have HO := Lib.hid h
 have HBw := Lib.hid hBw
 have HWi := Lib.hid (ykw (sv c.raw) l W0 (zac hB hl))
 have HF := Lib.hid (yl5 (g := g) (l := l) m)
 obtain ⟨G, hG⟩ : ∃ G, G = doG g (zcd 1 l) := ⟨_, rfl⟩
 obtain ⟨R, hR⟩ : ∃ R, R = zfs g (zcd 1 l) := ⟨_, rfl⟩
 rw [← hG, ← hR] at HF ⊢
 have HPu := Lib.hid (fun W (b : Below w.heap.size w W) => ((zu3 x g (zzr l) W (h.laid.keep b) m sg.j).mono fun _ _ k => k.b (Nat.le_trans hBw b.size) fun U hU => (h.keep b).far hU))
 obtain ⟨is, his⟩ : ∃ b, b = isAY l := ⟨_, rfl⟩
 have HBl := Lib.hid (ylu (l := l))
 rw [← his] at HWi HF HBl
 generalize z0l l = bb at HWi HBl
 generalize zzr l = bg at HF HPu HBl
 obtain ⟨T, hT⟩ : ∃ T, T = w.heap.size + 1 := ⟨_, rfl⟩
 obtain ⟨Q, hQ⟩ : ∃ Q, Q = w.heap.size + 2 := ⟨_, rfl⟩
 have HTQ : Hid (T = w.heap.size + 1 ∧ Q = w.heap.size + 2) := ⟨hT, hQ⟩
 rw [← hQ, ← hT] at A
 have zc : W0.cell? ⟨w.heap.size, 1, none⟩ = some (sv c.raw) := yoc qc
 clear hW0 hB qc q0 q2 h hBw m sg hl hG hR his
 go_enter Tryz.func83, Tryz.ntmps83
 go_upto_region 1 with fail
 rw [← HW.out, ← hQ, ← hT]
 clear hT hQ
 go_wp2_with fail
 refine HWi.out.mono ?_
 rintro e w1 ⟨rfl, gg⟩
 replace A := Lib.hid (A.out.keep gg)
 clear gg zc HWi
 go_upto_region 2 with fail
 obtain ⟨w2, hw2⟩ : ∃ w2, w2 = w1.alloc (.cells (aa bb) 62) := ⟨_, rfl⟩
 rw [← hw2]
 have gg : Below w1.heap.size w1 w2 := by rw [hw2]; exact below1
 have X6 : Hid (w2.heap[w1.heap.size]? = some (.cells (aa bb) 62 (0, 0))) := by show _ = _; rw [hw2]; exact heap_alloc_last _ _
 replace A := Lib.hid (A.out.keep gg)
 clear gg hw2
 cases is
 ·
  have HH := Lib.hid (HF.out.1 rfl)
  have z := A.out.s.v.z
  have wr := A.out.wrR
  go_wp2_with fail
  have EE := (A.out.ret 2).b HBw.out (fun U hU => HO.out.far hU)
  rw [HH.out.1, HH.out.2]
  exact bodyPost_ret (zal Tryz.isAgg39 Tryz.sizeOf39 _ 4 5 rfl _ _ _ _ _ rfl rfl A.out.out) rfl EE
 have HH := Lib.hid (HF.out.2 rfl)
 have hb := HBl.out (by first | rfl | trivial)
 subst hb
 have HP2 := Lib.hid (HPu.out w2 A.out.s.bw)
 rw [← HH.out.1, ← HH.out.2] at HP2
 have z := A.out.s.v.z
 have z6 := zaf X6.out (zfg _)
 go_wp2_with fail
 refine HP2.out.mono ?_
 rintro e w3 ⟨y, rfl, ly, gg, fy⟩
 have EE := A.out.eb HBw.out ly gg fy R
 have wr := A.out.ebw fy
 have oo := Lib.hid (A.out.ebo fy)
 have HE := Lib.hid EE
 clear ly gg fy z z6 EE
 go_wp2_with fail
 exact bodyPost_ret (zal Tryz.isAgg39 Tryz.sizeOf39 _ 4 5 rfl _ _ _ _ _ rfl rfl oo.out) rfl HE.out
theorem zqi : ∀ args w, (callFunc 83 args).run Tryz.prog w = .ok (.enter 83 args) w := zbb Tryz.func83 (by kernel_rfl) (by kernel_rfl)
theorem z5o (c : Cl) (x : En) (g : Eg) (w : World) (h : LaidG w x g) (m : MayS' g) (hj : g.j.length ≤ 1000) :
  Calls Tryz.prog 84 #[.agg (cl c), .agg (en x)] w (EgErN (zd2 g) (zee g) x g w) := by
 obtain ⟨W0, hW0⟩ : ∃ W0, W0 = ((w.alloc (.cells (cl c) 96)).alloc (.cells (en x) 39)).alloc (.cells (en zen) 39) := ⟨_, rfl⟩
 obtain ⟨hB, _, q0, q2, _⟩ := zfw w _ _ _ _ _ _ W0 hW0
 have A : Hid (Gp w x g (w.heap.size + 2) W0 (w.heap.size + 1) x g) := zfx h hB q0 ⟨_, q2⟩ (by omega) (by omega) (by omega)
 have HW := Lib.hid hW0
 have hm := zdu.2 m
 obtain ⟨G, hG⟩ : ∃ G, G = zd2 g := ⟨_, rfl⟩
 obtain ⟨R, hR⟩ : ∃ R, R = zee g := ⟨_, rfl⟩
 have HNo : Hid (R ≠ 0 → G = g) := fun e => by rw [hG]; exact zz4 (by rw [← hR]; exact e)
 have HR2 : Hid (g.now.toNat = 1099511627776 → R = 3) := fun hn => by rw [hR]; exact z8s hm hn
 have HR3 : Hid (¬ g.now.toNat = 1099511627776 → R = 0) := fun hn => by rw [hR]; exact ym3 hm hn
 have HMs := Lib.hid m
 have HRe := Lib.hid hR
 have HGe := Lib.hid hG
 have HJ := Lib.hid hj
 rw [← hG, ← hR]
 obtain ⟨T, hT⟩ : ∃ T, T = w.heap.size + 1 := ⟨_, rfl⟩
 obtain ⟨Q, hQ⟩ : ∃ Q, Q = w.heap.size + 2 := ⟨_, rfl⟩
 have HTQ : Hid (T = w.heap.size + 1 ∧ Q = w.heap.size + 2) := ⟨hT, hQ⟩
 rw [← hQ, ← hT] at A
 clear hW0 hB q0 q2 h hj hm m hG hR
 go_enter Tryz.func84, Tryz.ntmps84
 go_upto_region 1 with fail
 rw [← HW.out, ← hQ, ← hT]
 clear hT hQ
 obtain ⟨N, hN⟩ : ∃ n, n = g.now.toNat := ⟨_, rfl⟩
 have HN := Lib.hid hN
 have zn := A.out.s.v.zn
 rw [← hN] at zn
 by_cases hlt : N = 1099511627776
 ·
  have HH : Hid (G = g ∧ R = 3) := by
   have e := HR2.out (by rw [← hN]; exact hlt)
   exact ⟨HNo.out (by rw [e]; decide), e⟩
  subst hlt
  have z := A.out.s.v.z
  have wr := A.out.wrR
  clear hN
  go_wp2_with fail
  have E := A.out.ret 3
  rw [HH.out.1, HH.out.2]
  exact bodyPost_ret (zal Tryz.isAgg39 Tryz.sizeOf39 _ 4 5 rfl _ _ _ _ _ rfl rfl A.out.out) rfl E
 have HR0 : Hid (R = 0) := HR3.out (by rw [← hN]; exact hlt)
 have HTk : Hid (zee g = 0) := HRe.out.symm.trans HR0.out
 have HNs : Hid (N < 1099511627776) := by
  show N < _
  have := HMs.out.now
  omega
 have t1 : ((N : Int) == 1099511627776) = false := by simp; omega
 have t1' : decide (N = 1099511627776) = false := decide_eq_false hlt
 have fn := A.out.s.fz 41
 have ww : IntKind.u64.wrap ((N : Int) + 1) = ((N + 1 : Nat) : Int) := by rw [IntKind.wrap_u64]; have := HNs.out; omega
 have hn1 : (g.now + 1).toNat = N + 1 := by
  rw [UInt64.toNat_add, ← hN]
  have := HNs.out
  have e : (1 : UInt64).toNat = 1 := rfl
  rw [e]; omega
 have A2 := A.out.putNow (g.now + 1)
 rw [hn1, show ((N + 1 : Nat) : Int) = (N : Int) + 1 by omega] at A2
 have HN1 := Lib.hid hn1
 clear hlt hN hn1 HR2 HR3 HNo
 go_upto_region 5 with fail
 obtain ⟨w2, hw2⟩ : ∃ w2, w2 = W0.setCell ⟨T, 41, none⟩ (.int .u64 ((N : Int) + 1)) := ⟨_, rfl⟩
 rw [← hw2] at A2 ⊢
 replace A := Lib.hid A2
 clear A2 hw2 zn fn t1 t1' ww
 have zn : w2.cell? ⟨T, 41, none⟩ = some (.int .u64 ((N : Int) + 1)) := by
  have := A.out.s.v.zn
  dsimp only at this
  rw [HN1.out] at this
  rw [this]; congr 2
 have zl := A.out.s.v.zl
 dsimp only at zl
 obtain ⟨D, hD⟩ : ∃ D, D = dueL g.late (g.now.toNat + 1) := ⟨_, rfl⟩
 obtain ⟨RL, hRL⟩ : ∃ D, D = zg7 g.late (g.now.toNat + 1) := ⟨_, rfl⟩
 have HDu : Hid (Calls Tryz.prog 74 #[sv x.late, .int .u64 ((N : Int) + 1)] w2 (zys D RL w2)) := by
  show Calls _ _ _ _ _
  rw [hD, hRL, ← HN.out]
  have := yid (sv x.late) g.late (N + 1) w2 A.out.s.l.late (by have := (zdy.1 HMs.out.late).1; omega)
  rw [show ((N + 1 : Nat) : Int) = (N : Int) + 1 by omega] at this
  exact this
 have HDe := Lib.hid hD
 have HRLe := Lib.hid hRL
 have HDl : Hid (D.length ≤ 6) := by
  show D.length ≤ 6
  rw [hD]
  have h2 := z65 (l := g.late) (now := g.now.toNat + 1)
  have h3 := (zdy.1 HMs.out.late).1
  omega
 clear hD hRL
 go_wp2_with fail
 refine HDu.out.mono ?_
 rintro e w3 ⟨vd, vr, rfl, hd, hr, gg⟩
 obtain ⟨pd, cd, rfl⟩ := zz9 hd
 obtain ⟨pr, cr, rfl⟩ := zz9 hr
 replace A := Lib.hid (A.out.keep gg)
 have SR := Lib.hid hr
 have SD := Lib.hid hd
 clear gg hd hr zn zl HDu
 have zl := A.out.s.v.zl
 have fl := A.out.s.fz 5
 dsimp only at zl
 go_upto_region 6 with fail
 have A5 := A.out.putLate (s := ⟨pr, RL.length, cr⟩) SR.out
 have SD5 := zci (s := ⟨pd, D.length, cd⟩) SD.out (zj9 A.out.s.box SD.out) (zbl (T := T) (sv ⟨pr, RL.length, cr⟩) 5) (zba (sv ⟨pr, RL.length, cr⟩) 5)
 rw [zat] at A5 SD5
 rw [zat] at SD5
 obtain ⟨w5, hw5⟩ : ∃ w5, w5 = w3.setCell ⟨T, 5, none⟩ (.slice pr RL.length cr) := ⟨_, rfl⟩
 rw [← hw5] at A5 SD5 ⊢
 have A6 : Hid (∃ xc, Gp w x g Q w5 T xc (tkE g 0)) := ⟨_, by rw [ylf]; unfold upG; rw [← HRLe.out]; exact A5⟩
 have SD6 := Lib.hid SD5
 clear A A5 SD5 SD SR hw5 zl fl
 obtain ⟨nd, hnd⟩ : ∃ n, n = D.length := ⟨_, rfl⟩
 rw [← hnd] at SD6 ⊢
 have HNd := Lib.hid hnd
 clear hnd
 go_wp2_with fail
 go_loopw [28] (fun i wr => ∃ k : Nat, k ≤ nd ∧ i = .int .i64 (k : Int) ∧ (∃ xc, Gp w x g Q wr T xc (tkE g k)) ∧ SlE Eaa wr (.slice pd nd cd) D) (fun i _ => nd - (intOf i).toNat)
 case atStart => exact ⟨0, Nat.zero_le _, rfl, A6.out, SD6.out⟩
 case round =>
  obtain ⟨k, hk, rfl, ⟨xc, hA⟩, hS⟩ := hrel
  have A := Lib.hid hA
  have SD := Lib.hid hS
  clear hA hS
  by_cases hlt : k < nd
  ·
   have HK := Lib.hid hlt
   have i0 : (0 : Int) ≤ (k : Int) := by omega
   have i1 : (k : Int) < (nd : Int) := by omega
   have u1 : (k : Int) + 1 < 10000 := by have := HDl.out; have := HNd.out; omega
   obtain ⟨gc, hgc⟩ : ∃ gc, gc = tkE g k := ⟨_, rfl⟩
   rw [← hgc] at A
   have HMc : Hid (MayS' gc) := by show MayS' gc; rw [hgc]; exact ysl HMs.out HTk.out k
   have HLc : Hid (gc.j.length ≤ 1096) := by show _ ≤ _; rw [hgc]; have := yp4 HMs.out HTk.out k; have := HJ.out; omega
   obtain ⟨a, ha⟩ : ∃ a, a = att D k := ⟨_, rfl⟩
   have HNext : Hid (tkE g (k + 1) = oneG gc a) := by
    show _ = _
    rw [hgc, ha, HDe.out]
    exact ym9 (by rw [← HDe.out, ← HNd.out]; exact hlt)
   have HFt := Lib.hid (fun W hh => zv9 xc gc a W hh)
   have HCt : Hid (fitG gc a = 0 → ∀ W, LaidG W xc gc → Calls Tryz.prog 93 #[.agg (en xc), .agg (aa a)] W (EgErN (ctG gc a) (zlz gc a) xc gc W)) := fun e W hh => zp6 xc gc a W hh HMc.out e (by have := HLc.out; omega)
   obtain ⟨F, hF⟩ : ∃ F, F = fitG gc a := ⟨_, rfl⟩
   rw [← hF] at HFt HCt
   have HFe := Lib.hid hF
   obtain ⟨bd, od, rfl, qd, rd⟩ := zyw SD.out (by rw [← HNd.out]; omega)
   have yd := zs4 rd (i := k) (by rw [← HNd.out]; exact hlt)
   rw [← ha] at yd
   clear hlt ha hF hgc qd rd
   go_upto_region 9 with fail
   obtain ⟨V, hV⟩ : ∃ V, V = wr.alloc (.cells (aa a) 62) := ⟨_, rfl⟩
   rw [← hV]
   have gg : Below wr.heap.size wr V := by rw [hV]; exact below1
   have X8 : Hid (V.heap[wr.heap.size]? = some (.cells (aa a) 62 (0, 0))) := by show _ = _; rw [hV]; exact heap_alloc_last wr _
   replace A := Lib.hid (A.out.keep gg)
   replace SD := Lib.hid (zac gg SD.out)
   obtain ⟨T8, hT8⟩ : ∃ n, n = wr.heap.size := ⟨_, rfl⟩
   rw [← hT8] at X8 ⊢
   clear gg hV yd hT8
   have z := A.out.s.v.z
   have z8 := (aa_v X8.out).all
   go_wp2_with fail
   refine (HFt.out _ A.out.s.l).mono ?_
   rintro e wa ⟨rfl, gg⟩
   replace A := Lib.hid (A.out.keep gg)
   replace SD := Lib.hid (zac gg SD.out)
   replace X8 := Lib.hid (zab gg X8.out)
   clear gg z z8 HFt
   by_cases h0 : F = 0
   ·
    have HF0 : Hid (tkE g (k + 1) = ctG gc a) := by
     show _ = _
     rw [HNext.out]
     unfold oneG
     rw [if_pos (by rw [← HFe.out]; exact h0)]
    replace HCt := Lib.hid (HCt.out h0)
    subst h0
    have z := A.out.s.v.z
    have z8 := (aa_v X8.out).all
    go_wp2_with fail
    refine (HCt.out _ A.out.s.l).mono ?_
    rintro e wb ⟨y, rfl, ly, gg, fy⟩
    have FT := Lib.hid (fy T ⟨_, A.out.s.box⟩ A.out.s.f)
    have FR := Lib.hid (fy Q A.out.r A.out.fr)
    have FF : Hid (∀ U, EnAt w U → FarG U x g → FarG U y (ctG gc a)) := fun U hU hf => fy U (A.out.at_ hU) (A.out.ff U hU hf)
    replace A := Lib.hid (A.out.keep gg)
    replace SD := Lib.hid (zac gg SD.out)
    have LY := Lib.hid ly
    have wt := A.out.s.wr 0 42 (by decide)
    clear gg z z8 fy ly X8
    have A8 : Hid (Gp w x g Q (stA wb (.pointer (some ⟨T, 0, none⟩)) (.agg (en y))) T y (tkE g (k + 1))) := by
     show Gp _ _ _ _ _ _ _ _
     rw [HF0.out]
     exact A.out.putAll LY.out FT.out FR.out FF.out
    have SD8 : Hid (SlE Eaa (stA wb (.pointer (some ⟨T, 0, none⟩)) (.agg (en y))) (.slice (some ⟨bd, od, none⟩) nd cd) D) := by
     have := zci (s := ⟨some ⟨bd, od, none⟩, nd, cd⟩) SD.out (zj9 A.out.s.box SD.out) (zd1 (T := T) (.agg (en y)) 0) (zb1 (.agg (en y)) 0)
     rwa [zat] at this
    go_wp2_with fail
    go_roundw
    case rel => exact ⟨k + 1, HK.out, by go_num, ⟨y, A8.out⟩, SD8.out⟩
    case measure => simp [intOf]; have := HK.out; omega
   ·
    have HF0 : Hid (tkE g (k + 1) = gc) := by
     show _ = _
     rw [HNext.out]
     unfold oneG
     rw [if_neg (by rw [← HFe.out]; exact h0)]
    have t0 : ((F : Int) == 0) = false := by simp; omega
    have t0' : decide (F = 0) = false := decide_eq_false h0
    clear h0
    go_wp2_with fail
    go_roundw
    case rel => exact ⟨k + 1, HK.out, by go_num, ⟨xc, by rw [HF0.out]; exact A.out⟩, SD.out⟩
    case measure => simp [intOf]; have := HK.out; omega
  ·
   obtain rfl : k = nd := by omega
   clear hlt
   have HE : Hid (tkE g k = G) := by
    show _ = _
    rw [HNd.out, HDe.out, ypq HTk.out, HGe.out]
   rw [HE.out] at A
   have z := A.out.s.v.z
   have wr' := A.out.wrR
   go_wp2_with fail
   have E := A.out.ret 0
   rw [HR0.out]
   exact bodyPost_ret (zal Tryz.isAgg39 Tryz.sizeOf39 _ 4 5 rfl _ _ _ _ _ rfl rfl A.out.out) rfl E
theorem zn1 : ∀ args w, (callFunc 84 args).run Tryz.prog w = .ok (.enter 84 args) w := zbb Tryz.func84 (by kernel_rfl) (by kernel_rfl)
open Go.RowKit
structure Pr (w W : World) (B T R T6 : Nat) (x0 x : En) (g : Eg) (st : Value) (P : List Rt) : Prop where
 box : W.heap[T]? = some (.cells (en x) 39 (0, 0))
 r : EnAt W R
 l : LaidG W x g
 f : FarG T x g
 fr : FarG R x g
 ff : ∀ U, EnAt w U → FarG U x g ∧ W.heap[U]? = w.heap[U]?
 bw : Below B w W
 sz : w.heap.size ≤ W.heap.size
 s6 : W.heap[T6]? = some (.cells #[st] 117 (0, 0))
 sl : SlE Ert W st P
 sn : ∀ b, st.ownBlock = some b → w.heap.size ≤ b
 sT : st.ownBlock ≠ some T
 tn : ∀ b, (sv x.t.n).ownBlock = some b → w.heap.size ≤ b
 vn : ∀ b, (sv x.v.l).ownBlock = some b → w.heap.size ≤ b
 wn : ∀ b, (sv x.w).ownBlock = some b → w.heap.size ≤ b
 kn : ∀ b, (sv x.k).ownBlock = some b → (sv x0.k).ownBlock = some b
 bal : x.bal = x0.bal
 late : x.late = x0.late
 lo : w.heap.size ≤ T
 lr : w.heap.size ≤ R
 l6 : w.heap.size ≤ T6
 n6 : T6 ≠ T
 nr : R ≠ T
section
variable {w W W' : World} {B T R T6 : Nat} {x0 x : En} {g0 g : Eg} {st : Value} {P : List Rt} {s : SlV}
theorem Pr.keepS {α : Type} {E : Lie α} {v : Value} {l : List α} {r : Option Nat} (hg : W.grownBy W' r) (h : SlE E W v l) (hb : ∀ b, v.ownBlock = some b → r ≠ some b) : SlE E W' v l := ze5 h hg.size fun b hl e => hg.block b hl (fun e2 => hb b e e2.symm)
theorem z5l {α : Type} {E : Lie α} {v y : Value} {l : List α} {o : Nat} (h : SlE E W v l) (hn : v.ownBlock ≠ some T) : SlE E (W.setCell ⟨T, o, none⟩ y) v l := ze5 h (zbl _ _) fun b _ e => zba _ _ b (fun e2 => hn (by rw [e, e2]))
theorem Pr.stepK (h : Pr w W B T R T6 x0 x g st P) (hO : OwnG w B x0 g0) (hB : B ≤ w.heap.size) (hk : x.k = x0.k) (hj : x.j = x0.j) (oj : OwnE Ecc W B (sv x0.j) g0.j) {l' : List Lk} (hg : W.grownBy W' (sv x.k).ownBlock) (hs : SlE Elk W' (sv s) l') (hb : ∀ b, (sv s).ownBlock = some b → (sv x.k).ownBlock = some b) :
  Pr w (W'.setCell ⟨T, 6, none⟩ (sv s)) B T R T6 x0 { x with k := s } { g with k := l' } st P ∧ OwnE Ecc (W'.setCell ⟨T, 6, none⟩ (sv s)) B (sv x0.j) g0.j := by
 have hlt : ∀ b, (sv x.k).ownBlock = some b → b < w.heap.size := fun b hb => (zbm hO.k (by rw [← hk]; exact hb)).2
 have hold : ∀ b, w.heap.size ≤ b → (sv x.k).ownBlock ≠ some b := fun b hb e => by have := hlt b e; omega
 have hblk : ∀ b, b < W.heap.size → w.heap.size ≤ b → W'.heap[b]? = W.heap[b]? := fun b h1 h2 => hg.block b h1 (fun e => hold b h2 e.symm)
 have lT : T < W.heap.size := (Array.getElem?_eq_some_iff.1 h.box).1
 have l6 : T6 < W.heap.size := (Array.getElem?_eq_some_iff.1 h.s6).1
 have hbx : W'.heap[T]? = some (.cells (en x) 39 (0, 0)) := (hblk T lT h.lo).trans h.box
 have hnew : ∀ {v : Value}, (∀ b, v.ownBlock = some b → w.heap.size ≤ b) → ∀ b, v.ownBlock = some b → (sv x.k).ownBlock ≠ some b := fun h1 b e e2 => by have := h1 b e; have := hlt b e2; omega
 have ap : ∀ {α : Type} {E : Lie α} {u : SlV} {l : List α}, OwnE E w B (sv u) l → Elk.t ≠ E.t → ∀ b, (sv u).ownBlock = some b → (sv x.k).ownBlock ≠ some b := fun h1 h2 b e e2 => zh5 hO.k h1 h2 b (by rw [← hk]; exact e2) e
 have nX : ∀ U, EnAt w U → (sv x.k).ownBlock ≠ some U := fun U hU e => by
  obtain ⟨c, hc⟩ := zk6 hO.k (by rw [← hk]; exact e)
  obtain ⟨z, hz⟩ := hU
  rw [hz] at hc
  injection hc with hc
  injection hc with _ hc
  exact zs9.2.2.2.2.1 hc.symm
 have nE : ∀ U, EnAt w U → (sv s).ownBlock ≠ some U := fun U hU e => nX U hU (hb U e)
 have keU : ∀ U, EnAt w U → (W'.setCell ⟨T, 6, none⟩ (sv s)).heap[U]? = w.heap[U]? := fun U hU => (zba _ _ U (fun e => by have := hU.lt; have := h.lo; omega)).trans ((hg.block U (Nat.lt_of_lt_of_le hU.lt h.sz) (fun e => nX U hU e.symm)).trans (h.ff U hU).2)
 have fk : ∀ U, w.heap.size ≤ U → FarE U s l' := fun U hU => .inr fun e => by have := hlt U (hb U e); omega
 have L : LaidG W' { x with k := s } { g with k := l' } := ⟨Pr.keepS hg h.l.t (hnew h.tn), Pr.keepS hg h.l.bal (by rw [h.bal]; exact ap hO.bal yjc.2.2.2.1), Pr.keepS hg h.l.v (hnew h.vn), Pr.keepS hg h.l.w (hnew h.wn), Pr.keepS hg h.l.late (by rw [h.late]; exact ap hO.late yjc.2.2.1), hs, Pr.keepS hg h.l.j (by rw [hj]; exact ap hO.j yjc.2.2.2.2), h.l.out, h.l.fin, h.l.now⟩
 have F : FarG T { x with k := s } { g with k := l' } := h.f.setK (fk T h.lo)
 have bw' : Below B w W' := h.bw.grown hg (Nat.le_trans hB h.sz) fun b e => (zbm hO.k (by rw [← hk]; exact e)).1
 refine ⟨⟨by rw [zaq hbx 6 (sv s), zzb], ?_, L.put F (zbl _ _) (zba _ _), F, h.fr.setK (fk R h.lr), fun U hU => ⟨(h.ff U hU).1.setK (.inr fun e => nE U hU e), keU U hU⟩, bw'.setCell (p := ⟨T, 6, none⟩) (Nat.le_trans hB h.lo) _, Nat.le_trans (Nat.le_trans h.sz hg.size) (zbl _ _), ?_, ?_, h.sn, h.sT, h.tn, h.vn, h.wn, fun b e => by rw [← hk]; exact hb b e, h.bal, h.late, h.lo, h.lr, h.l6, h.n6, h.nr⟩, ?_⟩
 ·
  refine zjr _ _ h.nr ?_
  obtain ⟨z, hz⟩ := h.r
  exact ⟨z, (hblk R (Array.getElem?_eq_some_iff.1 hz).1 h.lr).trans hz⟩
 ·
  exact (zba _ _ T6 h.n6).trans ((hblk T6 l6 h.l6).trans h.s6)
 ·
  exact z5l (Pr.keepS hg h.sl (hnew h.sn)) h.sT
 ·
  have o1 : OwnE Ecc W' B (sv x0.j) g0.j := zdi oj fun b h1 e => hg.block b h1 fun e2 => ap hO.j yjc.2.2.2.2 b e e2.symm
  exact zdi o1 fun b _ e => zba _ _ b fun e2 => by have := (zbm hO.j e).2; have := h.lo; omega
theorem Pr.stepJ (h : Pr w W B T R T6 x0 x g st P) (hO : OwnG w B x0 g0) (hB : B ≤ w.heap.size) (hj : x.j = x0.j) {l' : List Ck} (hg : W.grownBy W' (sv x.j).ownBlock) (hs : SlE Ecc W' (sv s) l') (hb : ∀ b, (sv s).ownBlock = some b → (sv x.j).ownBlock = some b) :
  Pr w (W'.setCell ⟨T, 7, none⟩ (sv s)) B T R T6 x0 { x with j := s } { g with j := l' } st P := by
 have hlt : ∀ b, (sv x.j).ownBlock = some b → b < w.heap.size := fun b hb => (zbm hO.j (by rw [← hj]; exact hb)).2
 have hold : ∀ b, w.heap.size ≤ b → (sv x.j).ownBlock ≠ some b := fun b hb e => by have := hlt b e; omega
 have hblk : ∀ b, b < W.heap.size → w.heap.size ≤ b → W'.heap[b]? = W.heap[b]? := fun b h1 h2 => hg.block b h1 (fun e => hold b h2 e.symm)
 have lT : T < W.heap.size := (Array.getElem?_eq_some_iff.1 h.box).1
 have l6 : T6 < W.heap.size := (Array.getElem?_eq_some_iff.1 h.s6).1
 have hbx : W'.heap[T]? = some (.cells (en x) 39 (0, 0)) := (hblk T lT h.lo).trans h.box
 have hnew : ∀ {v : Value}, (∀ b, v.ownBlock = some b → w.heap.size ≤ b) → ∀ b, v.ownBlock = some b → (sv x.j).ownBlock ≠ some b := fun h1 b e e2 => by have := h1 b e; have := hlt b e2; omega
 have ap : ∀ {α : Type} {E : Lie α} {u : SlV} {l : List α}, OwnE E w B (sv u) l → Ecc.t ≠ E.t → ∀ b, (sv u).ownBlock = some b → (sv x.j).ownBlock ≠ some b := fun h1 h2 b e e2 => zh5 hO.j h1 h2 b (by rw [← hj]; exact e2) e
 have nX : ∀ U, EnAt w U → (sv x.j).ownBlock ≠ some U := fun U hU e => by
  obtain ⟨c, hc⟩ := zk6 hO.j (by rw [← hj]; exact e)
  obtain ⟨z, hz⟩ := hU
  rw [hz] at hc
  injection hc with hc
  injection hc with _ hc
  exact zs9.2.2.2.2.2 hc.symm
 have nE : ∀ U, EnAt w U → (sv s).ownBlock ≠ some U := fun U hU e => nX U hU (hb U e)
 have keU : ∀ U, EnAt w U → (W'.setCell ⟨T, 7, none⟩ (sv s)).heap[U]? = w.heap[U]? := fun U hU => (zba _ _ U (fun e => by have := hU.lt; have := h.lo; omega)).trans ((hg.block U (Nat.lt_of_lt_of_le hU.lt h.sz) (fun e => nX U hU e.symm)).trans (h.ff U hU).2)
 have fj : ∀ U, w.heap.size ≤ U → FarE U s l' := fun U hU => .inr fun e => by have := hlt U (hb U e); omega
 have L : LaidG W' { x with j := s } { g with j := l' } := ⟨Pr.keepS hg h.l.t (hnew h.tn), Pr.keepS hg h.l.bal (by rw [h.bal]; exact ap hO.bal ysv.2.2.2.1), Pr.keepS hg h.l.v (hnew h.vn), Pr.keepS hg h.l.w (hnew h.wn), Pr.keepS hg h.l.late (by rw [h.late]; exact ap hO.late ysv.2.2.1), Pr.keepS hg h.l.k (fun b e => ap hO.k ysv.2.2.2.2 b (h.kn b e)), hs, h.l.out, h.l.fin, h.l.now⟩
 have F : FarG T { x with j := s } { g with j := l' } := h.f.setJ (fj T h.lo)
 have bw' : Below B w W' := h.bw.grown hg (Nat.le_trans hB h.sz) fun b e => (zbm hO.j (by rw [← hj]; exact e)).1
 refine ⟨by rw [zaq hbx 7 (sv s), zw2], ?_, L.put F (zbl _ _) (zba _ _), F, h.fr.setJ (fj R h.lr), fun U hU => ⟨(h.ff U hU).1.setJ (.inr fun e => nE U hU e), keU U hU⟩, bw'.setCell (p := ⟨T, 7, none⟩) (Nat.le_trans hB h.lo) _, Nat.le_trans (Nat.le_trans h.sz hg.size) (zbl _ _), ?_, ?_, h.sn, h.sT, h.tn, h.vn, h.wn, h.kn, h.bal, h.late, h.lo, h.lr, h.l6, h.n6, h.nr⟩
 ·
  refine zjr _ _ h.nr ?_
  obtain ⟨z, hz⟩ := h.r
  exact ⟨z, (hblk R (Array.getElem?_eq_some_iff.1 hz).1 h.lr).trans hz⟩
 ·
  exact (zba _ _ T6 h.n6).trans ((hblk T6 l6 h.l6).trans h.s6)
 ·
  exact z5l (Pr.keepS hg h.sl (hnew h.sn)) h.sT
theorem Pr.ret (h : Pr w W B T R T6 x0 x g st P) (hB : B ≤ w.heap.size) (n : Nat) : EgErB g n B w (.returned (.tuple #[.agg (en x), .int .i64 (n : Int)])) (stA W (.pointer (some ⟨R, 0, none⟩)) (.agg (en x))) :=
 ⟨x, rfl, h.l.put h.fr (zd1 _ _) (zb1 _ _), zav h.bw (Nat.le_trans hB h.lr), fun U hU => ⟨(h.ff U hU).1, (zb1 _ _ U (fun e => by have := hU.lt; have := h.lr; omega)).trans (h.ff U hU).2⟩⟩
theorem Pr.wrR (h : Pr w W B T R T6 x0 x g st P) : wrA W (.pointer (some ⟨R, 0, none⟩)) 42 = true := by
 obtain ⟨z, hz⟩ := h.r
 exact za8 hz (zas z)
theorem Pr.out (h : Pr w W B T R T6 x0 x g st P) : ldA (stA W (.pointer (some ⟨R, 0, none⟩)) (.agg (en x))) (.pointer (some ⟨R, 0, none⟩)) 42 = some (en x) := by
 obtain ⟨z, hz⟩ := h.r
 exact zaf (zby hz (by rw [zas, zas])) (zas x)
theorem Pr.grown (h : Pr w W B T R T6 x0 x g st P) {u : SlV} (hu : ∀ b, (sv u).ownBlock = some b → b < w.heap.size) (hg : W.grownBy W' (sv u).ownBlock) :
  W'.heap[T6]? = some (.cells #[st] 117 (0, 0)) ∧ SlE Ert W' st P ∧ W'.heap[T]? = some (.cells (en x) 39 (0, 0)) := by
 have hblk : ∀ b, b < W.heap.size → w.heap.size ≤ b → W'.heap[b]? = W.heap[b]? := fun b h1 h2 => hg.block b h1 (fun e => by have := hu b e.symm; omega)
 exact ⟨(hblk T6 (Array.getElem?_eq_some_iff.1 h.s6).1 h.l6).trans h.s6, Pr.keepS hg h.sl (fun b e e2 => by have := h.sn b e; have := hu b e2; omega), (hblk T (Array.getElem?_eq_some_iff.1 h.box).1 h.lo).trans h.box⟩
end
theorem zq5 {w : World} {b : Nat} {v : Value} {t : TypeId} (h : w.heap[b]? = some (.cells #[v] t (0, 0))) : w.cell? ⟨b, 0, none⟩ = some v := by
 rw [cell_of_row _ _ _ _ _ _ h]; rfl
def goK (P : List Rt) (fin : Ck) (x : Lk) : Bool := !decide (x.s.root ∈ P) || (!decide (x.t.root ∈ P) || decide (x.t.epoch.toNat ≤ fin.epoch.toNat))
def goJ (P : List Rt) (fin c : Ck) : Bool := !decide (c.root ∈ P) || decide (c.epoch.toNat < fin.epoch.toNat)
theorem yl6 {t : List Nd} (h : MayT t) (fin : Ck) (x : Lk) : (!goK (zb2 t) fin x) = zps t fin x := by
 have e1 : decide (x.s.root ∈ zb2 t) = inT t x.s.root := by rw [Bool.eq_iff_iff, decide_eq_true_iff]; exact zke h _
 have e2 : decide (x.t.root ∈ zb2 t) = inT t x.t.root := by rw [Bool.eq_iff_iff, decide_eq_true_iff]; exact zke h _
 have e3 : decide (fin.epoch.toNat < x.t.epoch.toNat) = !decide (x.t.epoch.toNat ≤ fin.epoch.toNat) := by rw [← decide_not]; exact decide_eq_decide.2 (by omega)
 unfold goK zps
 rw [e1, e2, e3]
 cases inT t x.s.root <;> cases inT t x.t.root <;> simp
theorem ylt {t : List Nd} (h : MayT t) (fin c : Ck) : (!goJ (zb2 t) fin c) = zqn t fin c := by
 have e1 : decide (c.root ∈ zb2 t) = inT t c.root := by rw [Bool.eq_iff_iff, decide_eq_true_iff]; exact zke h _
 have e3 : decide (fin.epoch.toNat ≤ c.epoch.toNat) = !decide (c.epoch.toNat < fin.epoch.toNat) := by rw [← decide_not]; exact decide_eq_decide.2 (by omega)
 unfold goJ zqn
 rw [e1, e3]
 cases inT t c.root <;> simp
theorem ybj (T6 T : Nat) (vs : Value) (P : List Rt) (z : En) (x : Lk) (w : World) (h6 : w.heap[T6]? = some (.cells #[vs] 117 (0, 0))) (hs : SlE Ert w vs P) (hP : P.length ≤ 9000) (hT : w.heap[T]? = some (.cells (en z) 39 (0, 0))) :
  Calls Tryz.prog 118 #[.agg (lk x), .pointer (some ⟨T6, 0, none⟩), .pointer (some ⟨T, 0, none⟩)] w fun e w' => e = .returned (.bool (goK P z.fin x)) ∧ Below w.heap.size w w' := by
 obtain ⟨W0, hW0⟩ : ∃ W0, W0 = w.alloc (.cells (lk x) 110) := ⟨_, rfl⟩
 have HB : Hid (Below w.heap.size w W0) := by rw [hW0]; exact below1
 have X : Hid (W0.heap[w.heap.size]? = some (.cells (lk x) 110 (0, 0))) := by show _ = _; rw [hW0]; exact heap_alloc_last w _
 have H6 := Lib.hid h6
 have HT := Lib.hid hT
 have HW := Lib.hid hW0
 have HC := Lib.hid (fun r W (b : Below w.heap.size w W) => zpm vs P r W (zac b hs) hP)
 obtain ⟨b1, hb1⟩ : ∃ b, b = decide (x.s.root ∈ P) := ⟨_, rfl⟩
 obtain ⟨b2, hb2⟩ : ∃ b, b = decide (x.t.root ∈ P) := ⟨_, rfl⟩
 obtain ⟨A, hA⟩ : ∃ n, n = x.t.epoch.toNat := ⟨_, rfl⟩
 obtain ⟨D, hD⟩ : ∃ n, n = z.fin.epoch.toNat := ⟨_, rfl⟩
 obtain ⟨b3, hb3⟩ : ∃ b, b = decide (A ≤ D) := ⟨_, rfl⟩
 have HF : Hid (goK P z.fin x = (!b1 || (!b2 || b3))) := by show _ = _; unfold goK; rw [hb1, hb2, hb3, hA, hD]
 have H1 : Hid (∀ W, Below w.heap.size w W → Calls Tryz.prog 78 #[vs, .agg (rc x.s.root)] W fun e w' => e = .returned (.bool b1) ∧ Below W.heap.size W w') := by show ∀ _, _; rw [hb1]; exact HC.out _
 have H2 : Hid (∀ W, Below w.heap.size w W → Calls Tryz.prog 78 #[vs, .agg (rc x.t.root)] W fun e w' => e = .returned (.bool b2) ∧ Below W.heap.size W w') := by show ∀ _, _; rw [hb2]; exact HC.out _
 have HA := Lib.hid hA
 have HD := Lib.hid hD
 have t1 : decide ((A : Int) ≤ (D : Int)) = b3 := by rw [hb3]; exact decide_eq_decide.2 (by omega)
 have t1' : decide (A ≤ D) = b3 := hb3.symm
 obtain ⟨r, hr⟩ : ∃ r, r = goK P z.fin x := ⟨_, rfl⟩
 rw [← hr] at HF ⊢
 clear hW0 h6 hs hP hT HC hb1 hb2 hb3 hA hD hr
 have y6 := zq5 (zab HB.out H6.out)
 have z1 := zni X.out
 go_enter Tryz.func118, Tryz.ntmps118
 go_upto_region 1 with fail
 rw [← HW.out]
 go_wp2_with fail
 refine (H1.out _ HB.out).mono ?_
 rintro e w1 ⟨rfl, gg⟩
 have G1 := Lib.hid (zad HB.out gg)
 replace X := Lib.hid (zab gg X.out)
 clear gg z1 y6
 cases b1
 ·
  go_wp2_with fail
  go_ret
  exact ⟨by rw [HF.out]; first | done | rfl, G1.out⟩
 have y6 := zq5 (zab G1.out H6.out)
 have z1 := zmx X.out
 go_wp2_with fail
 refine (H2.out _ G1.out).mono ?_
 rintro e w2 ⟨rfl, gg⟩
 replace G1 := Lib.hid (zad G1.out gg)
 replace X := Lib.hid (zab gg X.out)
 clear gg z1 y6
 cases b2
 ·
  go_wp2_with fail
  go_ret
  exact ⟨by rw [HF.out]; first | done | rfl, G1.out⟩
 have z1 : w2.cell? ⟨w.heap.size, 33, none⟩ = some (.int .u64 (A : Int)) := by rw [HA.out]; exact zle X.out
 have z2 : w2.cell? ⟨T, 8, none⟩ = some (.int .u64 (D : Int)) := by rw [HD.out]; exact zf0 (zab G1.out HT.out)
 go_wp2_with fail
 go_ret
 exact ⟨by rw [HF.out]; first | done | rfl, G1.out⟩
theorem zpj : ∀ args w, (callFunc 118 args).run Tryz.prog w = .ok (.enter 118 args) w := zbb Tryz.func118 (by kernel_rfl) (by kernel_rfl)
theorem z9o (T6 T : Nat) (vs : Value) (P : List Rt) (z : En) (x : Ck) (w : World) (h6 : w.heap[T6]? = some (.cells #[vs] 117 (0, 0))) (hs : SlE Ert w vs P) (hP : P.length ≤ 9000) (hT : w.heap[T]? = some (.cells (en z) 39 (0, 0))) :
  Calls Tryz.prog 120 #[.agg (cc x), .pointer (some ⟨T6, 0, none⟩), .pointer (some ⟨T, 0, none⟩)] w fun e w' => e = .returned (.bool (goJ P z.fin x)) ∧ Below w.heap.size w w' := by
 obtain ⟨W0, hW0⟩ : ∃ W0, W0 = w.alloc (.cells (cc x) 37) := ⟨_, rfl⟩
 have HB : Hid (Below w.heap.size w W0) := by rw [hW0]; exact below1
 have X : Hid (W0.heap[w.heap.size]? = some (.cells (cc x) 37 (0, 0))) := by show _ = _; rw [hW0]; exact heap_alloc_last w _
 have H6 := Lib.hid h6
 have HT := Lib.hid hT
 have HW := Lib.hid hW0
 obtain ⟨b1, hb1⟩ : ∃ b, b = decide (x.root ∈ P) := ⟨_, rfl⟩
 obtain ⟨A, hA⟩ : ∃ n, n = x.epoch.toNat := ⟨_, rfl⟩
 obtain ⟨D, hD⟩ : ∃ n, n = z.fin.epoch.toNat := ⟨_, rfl⟩
 obtain ⟨b3, hb3⟩ : ∃ b, b = decide (A < D) := ⟨_, rfl⟩
 have HF : Hid (goJ P z.fin x = (!b1 || b3)) := by show _ = _; unfold goJ; rw [hb1, hb3, hA, hD]
 have H1 : Hid (∀ W, Below w.heap.size w W → Calls Tryz.prog 78 #[vs, .agg (rc x.root)] W fun e w' => e = .returned (.bool b1) ∧ Below W.heap.size W w') := by show ∀ _, _; rw [hb1]; exact fun W b => zpm vs P _ W (zac b hs) hP
 have HA := Lib.hid hA
 have HD := Lib.hid hD
 have t1 : decide ((A : Int) < (D : Int)) = b3 := by rw [hb3]; exact decide_eq_decide.2 (by omega)
 have t1' : decide (A < D) = b3 := hb3.symm
 obtain ⟨r, hr⟩ : ∃ r, r = goJ P z.fin x := ⟨_, rfl⟩
 rw [← hr] at HF ⊢
 clear hW0 h6 hs hP hT hb1 hb3 hA hD hr
 have y6 := zq5 (zab HB.out H6.out)
 have z1 := zff X.out
 go_enter Tryz.func120, Tryz.ntmps120
 go_upto_region 1 with fail
 rw [← HW.out]
 go_wp2_with fail
 refine (H1.out _ HB.out).mono ?_
 rintro e w1 ⟨rfl, gg⟩
 have G1 := Lib.hid (zad HB.out gg)
 replace X := Lib.hid (zab gg X.out)
 clear gg z1 y6
 cases b1
 ·
  go_wp2_with fail
  go_ret
  exact ⟨by rw [HF.out]; first | done | rfl, G1.out⟩
 have z1 : w1.cell? ⟨w.heap.size, 0, none⟩ = some (.int .u64 (A : Int)) := by rw [HA.out]; exact zp8 X.out
 have z2 : w1.cell? ⟨T, 8, none⟩ = some (.int .u64 (D : Int)) := by rw [HD.out]; exact zf0 (zab G1.out HT.out)
 go_wp2_with fail
 go_ret
 exact ⟨by rw [HF.out]; first | done | rfl, G1.out⟩
theorem zo5 : ∀ args w, (callFunc 120 args).run Tryz.prog w = .ok (.enter 120 args) w := zbb Tryz.func120 (by kernel_rfl) (by kernel_rfl)
end Go.Proofs.YtmihlihlpdkdcaaGreat
