import Derived.Laws.OwnMore
import Derived.Deep.AppendLies
import Derived.Test.YtkalofboioffiaaGreatQ20
namespace Go.Proofs.YtkalofboioffiaaGreat
open Go.RowKit
set_option maxRecDepth 200000
set_option maxHeartbeats 64000000
def zgw (l : List Nd) (ys : List Nat) (i : Nat) : Bool := ys.any fun y => zao l i y
def upAt (l : List Nd) (i : Nat) (at' : Int) : Bool := if at' < 0 then false else zao l i at'.toNat
def wayB (l : List Nd) (ys : List Nat) (y : Nat) (at' : Int) (i : Nat) : Bool := zgw l ys i || (zao l i y && !upAt l i at')
theorem zyc (l : List Nd) (ys : List Nat) (y i : Nat) : zgw l (ys ++ [y]) i = (zgw l ys i || zao l i y) := by
 unfold zgw
 rw [List.any_append]
 simp
theorem zl9 (l : List Nd) (i a : Nat) : upAt l i (a : Int) = zao l i a := by unfold upAt; rw [if_neg (by omega)]; rfl
theorem yd2 (l : List Nd) (ys : List Nat) (y i : Nat) : wayB l ys y (y : Int) i = zgw l ys i := by
 unfold wayB
 rw [zl9]
 cases zao l i y <;> simp
theorem yod (l : List Nd) (ys : List Nat) (y i : Nat) : wayB l ys y (-1) i = zgw l (ys ++ [y]) i := by
 unfold wayB upAt
 rw [zyc, if_pos (by omega)]
 simp
section
variable {l : List Nd}
theorem ybi (h : MayT l) {ys : List Nat} (hys : ∀ y ∈ ys, y < l.length) {i a : Nat} (hi : zao l i a = true) (ha : zgw l ys a = true) : zgw l ys i = true := by
 unfold zgw at ha ⊢
 obtain ⟨y, hy, e⟩ := List.any_eq_true.1 ha
 exact List.any_eq_true.2 ⟨y, hy, zcr h hi y (hys y hy) e⟩
theorem yq8 (h : MayT l) {ys : List Nat} {y a : Nat} (ha : a < l.length) : wayB l ys y (a : Int) a = zgw l ys a := by
 unfold wayB
 rw [zl9, zb8 h ha]
 simp
theorem yi0 (h : MayT l) {ys : List Nat} (hys : ∀ y ∈ ys, y < l.length) {y a : Nat} (hy : y < l.length) (hay : zao l a y = true) (hm : zgw l ys a = true) (i : Nat) : wayB l ys y (a : Int) i = zgw l (ys ++ [y]) i := by
 unfold wayB
 rw [zyc, zl9]
 cases e : zao l i y
 ·
  rfl
 ·
  rcases zz1 h y hy e hay with e1 | e1
  ·
   rw [ybi h hys e1 hm]; rfl
  ·
   cases e2 : zao l i a
   ·
    simp
   ·
    rw [ybi h hys e2 hm]; rfl
theorem yiz (h : MayT l) {ys : List Nat} {y a i : Nat} (ha : a < l.length) (hay : zao l a y = true) : wayB l ys y (nd l a).parent i = if i = a then true else wayB l ys y (a : Int) i := by
 unfold wayB
 rw [zl9]
 by_cases h0 : a = 0
 ·
  subst h0
  have e : (nd l 0).parent = -1 := h.first
  rw [e]
  by_cases hi : i = 0
  ·
   subst hi; rw [if_pos rfl, hay]; simp [upAt]
  ·
   rw [if_neg hi, zb1, decide_eq_false hi]
   simp [upAt]
 ·
  obtain ⟨e, hu, _⟩ := h.par (Nat.pos_of_ne_zero h0) ha
  rw [e, zl9]
  by_cases hi : i = a
  ·
   subst hi
   rw [if_pos rfl, hay]
   have : zao l i (up l i) = false := by
    rw [← Bool.not_eq_true]
    intro e
    have := ze7 h i _ (by omega) e
    omega
   rw [this]
   simp
  ·
   rw [if_neg hi]
   have : zao l i (up l a) = zao l i a := by
    rw [Bool.eq_iff_iff, zbq h i (Nat.pos_of_ne_zero h0) ha]
    exact ⟨.inr, fun e => e.resolve_left hi⟩
   rw [this]
theorem yiy (h : MayT l) {y a : Nat} (ha : a < l.length) (hy : y < l.length) (hay : zao l a y = true) : (nd l a).parent = -1 ∨ ∃ b : Nat, (nd l a).parent = (b : Int) ∧ b < a ∧ zao l b y = true := by
 by_cases h0 : a = 0
 ·
  subst h0; exact .inl h.first
 ·
  obtain ⟨e, hu, _⟩ := h.par (Nat.pos_of_ne_zero h0) ha
  exact .inr ⟨_, e, hu, zcr h ((zbq h _ (Nat.pos_of_ne_zero h0) ha).2 (.inr (zb8 h (by omega)))) y hy hay⟩
theorem ygw {p : Nat → Bool} {just : Nat} {fin : Int} (hp : p = fun k : Nat => zki l just fin (k : Int)) (i : Nat) : zgw l ((List.range l.length).filter p) i = zr4 l just fin i := by
 rw [Bool.eq_iff_iff, zlj]
 unfold zgw
 rw [List.any_eq_true, hp]
 constructor
 ·
  rintro ⟨k, hk, e⟩
  obtain ⟨h1, h2⟩ := List.mem_filter.1 hk
  exact ⟨k, List.mem_range.1 h1, e, h2⟩
 ·
  rintro ⟨k, h1, e, h2⟩
  exact ⟨k, List.mem_filter.2 ⟨List.mem_range.2 h1, h2⟩, e⟩
end
theorem yh4 (b : List Bool) (x : Bool) (h : Nat) : zaq Eboo (b.set h x) = (zaq Eboo b).set h (.bool x) := by
 induction b generalizing h with
 | nil => rfl
 | cons y b ih => cases h with
  | zero => rfl
  | succ h => show Value.bool y :: zaq Eboo (b.set h x) = _; rw [ih]; rfl
theorem yhe {w : World} {base g n cap : Nat} {b : List Bool} (h : OwnE Eboo w base (.slice (some ⟨g, 0, none⟩) n cap) b) (hn : b.length = n) (k : Nat) (x : Bool) : OwnE Eboo (w.setCell ⟨g, k, none⟩ (.bool x)) base (.slice (some ⟨g, 0, none⟩) n cap) (b.set k x) := by
 subst hn
 unfold OwnE at h ⊢
 rw [yh4, List.length_set]
 exact (World.ownsRow.stored h k (.bool x)).1
theorem z1f {w : World} {base g n cap : Nat} {b : List Bool} (h : OwnE Eboo w base (.slice (some ⟨g, 0, none⟩) n cap) b) (hn : b.length = n) (k : Nat) : w.frozen? ⟨g, k, none⟩ = false := by
 subst hn; exact World.ownsRow.frozenAt h k
theorem yb8 {w : World} {base g n cap : Nat} {b : List Bool} (h : OwnE Eboo w base (.slice (some ⟨g, 0, none⟩) n cap) b) {k : Nat} (hk : k < b.length) : w.cell? ⟨g, k, none⟩ = some (.bool (bn b k)) := by
 obtain ⟨b1, o1, e, _, x⟩ := z20 (zat h) (by omega)
 injection e with e
 injection e with e1 e2
 subst e1 e2
 have := zw4 x hk
 rwa [Nat.zero_add] at this
theorem ybh (n : Nat) : (madeCells (Value.bool false).cells (n * 1)).toList = zaq Eboo (List.replicate n false) := by
 rw [Nat.mul_one]
 refine (toList_madeCells_one (.bool false) n).trans ?_
 induction n with
 | zero => rfl
 | succ n ih => rw [List.replicate_succ, List.replicate_succ, zds, ← ih]; rfl
theorem yb9 {w : World} {base n : Nat} {v : Value} (h : w.ownsRow base 4 1 v n (madeCells (Value.bool false).cells (n * 1)).toList) : OwnE Eboo w base v (List.replicate n false) := by
 rw [ybh] at h
 unfold OwnE
 rw [List.length_replicate]
 exact h
theorem yc5 {p q : Nat → Bool} {n a : Nat} (h : ∀ i, i < n → q i = if i = a then true else p i) : (zgl p n).set a true = zgl q n := by
 unfold zgl
 refine List.ext_getElem (by simp) fun i h1 h2 => ?_
 have hi : i < n := by simpa using h2
 rw [List.getElem_set]
 simp only [List.getElem_map, List.getElem_range]
 rw [h i hi]
 by_cases e : a = i
 ·
  subst e; simp
 ·
  rw [if_neg e, if_neg (fun x => e x.symm)]
theorem zkt {p q : Nat → Bool} {n : Nat} (h : ∀ i, i < n → q i = p i) : zgl q n = zgl p n := by
 unfold zgl
 exact List.map_congr_left fun i hi => h i (List.mem_range.1 hi)
theorem yew (n : Nat) : zgl (fun _ => false) n = List.replicate n false := by
 unfold zgl
 rw [List.map_const', List.length_range]
theorem ya7 (p : Option Addr) (n cp : Nat) (l : List Nd) (j : Nat) (f : Int) (w : World) (h : SlE Ene w (.slice p n cp) l) (hm : ¬ MayT l) :
  Calls Tryz.prog 62 #[.agg (tr ⟨⟨p, n, cp⟩⟩), .int .u64 (j : Int), .int .i64 f] w fun e w' => e = .returned (.slice none 0 0) ∧ Below w.heap.size w w' := by
 have HM := Lib.hid (fun W (g : Below w.heap.size w W) => ze3 ⟨p, n, cp⟩ l W (zad g h))
 rw [decide_eq_false hm] at HM
 obtain ⟨W0, hW0⟩ : ∃ W0, W0 = w.alloc (.cells (tr ⟨⟨p, n, cp⟩⟩) 24) := ⟨_, rfl⟩
 have HB : Hid (Below w.heap.size w W0) := by rw [hW0]; exact below1
 have HW := Lib.hid hW0
 clear h hm hW0
 go_enter Tryz.func62, Tryz.ntmps62
 go_wp2_with fail
 go_step3
 go_wp2_with fail
 rw [← HW.out]
 refine (HM.out W0 HB.out).mono ?_
 rintro e w1 ⟨rfl, g1⟩
 have G1 := Lib.hid (zac HB.out g1)
 clear g1
 go_wp2_with fail
 (try rw [Exit.noGoto_ret])
 go_ret
 exact ⟨rfl, G1.out⟩
theorem z6b (p : Option Addr) (n cp : Nat) (l : List Nd) (j : Nat) (f : Int) (w : World) (h : SlE Ene w (.slice p n cp) l) (hl : l.length = n) (hm : MayT l) :
  Calls Tryz.prog 62 #[.agg (tr ⟨⟨p, n, cp⟩⟩), .int .u64 (j : Int), .int .i64 f] w (BoosIs (zgl (zr4 l j f) n) w) := by
 obtain ⟨i, hi, hz0, hz1, hz2⟩ := info_parts ygi
 have HM := Lib.hid (fun W (g : Below w.heap.size w W) => ze3 ⟨p, n, cp⟩ l W (zad g h))
 rw [decide_eq_true hm] at HM
 have HLv := Lib.hid (fun W (g : Below w.heap.size w W) => z8e ⟨p, n, cp⟩ l j f W (by have := hm.le; omega) (zad g h))
 obtain ⟨ys, hys⟩ : ∃ ys, ys = selN (fun k => zki l j f (k : Int)) l.length := ⟨_, rfl⟩
 have HY : Hid (ygq l j f = ys.map fun k : Nat => (k : Int)) := by show _ = _; rw [hys]; rfl
 rw [HY.out] at HLv
 have HYb : Hid (∀ y ∈ ys, y < l.length) := fun y hy => by rw [hys] at hy; exact (yg1.1 hy).1
 have HYl : Hid (ys.length ≤ n) := by show _ ≤ _; rw [hys, ← hl]; exact z4j _ _
 have HE : Hid (zgl (zr4 l j f) n = zgl (zgw l ys) n) := zkt fun i _ => by rw [hys]; exact (ygw rfl i).symm
 rw [HE.out]
 obtain ⟨W0, hW0⟩ : ∃ W0, W0 = w.alloc (.cells (tr ⟨⟨p, n, cp⟩⟩) 24) := ⟨_, rfl⟩
 have HB : Hid (Below w.heap.size w W0) := by rw [hW0]; exact below1
 have M0 : Hid (W0.heap[w.heap.size]? = some (.cells (tr ⟨⟨p, n, cp⟩⟩) 24 (0, 0))) := by rw [hW0]; exact heap_alloc_last w _
 have HW := Lib.hid hW0
 have HMm := Lib.hid hm
 have HL := Lib.hid hl
 have HN : Hid (n ≤ 12) := by show n ≤ 12; have := hm.le; omega
 obtain ⟨b1, o1, rfl, q1, x1⟩ := zda h hm.pos
 have HX := Lib.hid x1
 clear h hl hm hW0 hys HY HE q1 x1
 go_enter Tryz.func62, Tryz.ntmps62
 go_wp2_with fail
 go_step3
 go_wp2_with fail
 rw [← HW.out]
 refine (HM.out W0 HB.out).mono ?_
 rintro e w1 ⟨rfl, g1⟩
 have G1 := Lib.hid (zac HB.out g1)
 have M1 := Lib.hid (zab g1 M0.out)
 have X1 := Lib.hid (zfu G1.out HX.out)
 obtain ⟨z0, z1, zl⟩ := zaw M1.out
 dsimp only at z0
 rw [za7] at z0
 clear g1 z1 zl
 go_wp2_with (at_make; refine wpList_make_full _ rfl _ _ 79 rfl w1.heap.size 4 i _ 1 Tryz.underlying79 hi hz0 hz1 .i64 .i64 _ _ n rfl rfl rfl rfl (by rw [hz2]; have := HN.out; omega) (by unfold maxLen; have := HN.out; omega) (Nat.le_refl _) ?_; intro wz hown hgrow; have BZ : Hid (Below w1.heap.size w1 wz) := (Below.refl _ _).grown hgrow (Nat.le_refl _) (fun k hk => by cases hk); have OZ := Lib.hid (yb9 hown); have MZ := Lib.hid (zab BZ.out M1.out); have z1 := zag MZ.out (za9 _); clear hown hgrow z0)
 clear hi hz0 hz1 hz2 i
 go_step3
 go_wp2_with fail
 refine (HLv.out wz (zac G1.out BZ.out)).mono ?_
 rintro e w2 ⟨v, rfl, hv, g2⟩
 have GG : Hid (w1.heap.size < wz.heap.size) := (zbi OZ.out rfl).2
 have HV := Lib.hid hv
 have B2 := Lib.hid (zac BZ.out g2)
 have O2 := Lib.hid (zam g2 OZ.out)
 obtain ⟨m, hmm⟩ : ∃ m, m = ys.length := ⟨_, rfl⟩
 have HMl := Lib.hid hmm
 obtain ⟨pv, cv, rfl⟩ := zdg hv (n := m) (by rw [List.length_map, hmm])
 clear hv g2 z1 hmm
 go_wp2_with fail
 go_loopw [23] (fun k wr => ∃ q : Nat, q ≤ m ∧ k = .int .i64 (q : Int) ∧ OwnE Eboo wr w1.heap.size (.slice (some ⟨w1.heap.size, 0, none⟩) n n) (zgl (zgw l (ys.take q)) n) ∧ OwnE Eint wr wz.heap.size (.slice pv m cv) (ys.map fun k : Nat => (k : Int)) ∧ Below w1.heap.size w1 wr) (fun k _ => m - (intOf k).toNat)
 case atStart => exact ⟨0, Nat.zero_le _, rfl, by rw [List.take_zero, show zgw l [] = fun _ => false from rfl, yew]; exact O2.out, HV.out, B2.out⟩
 case round =>
  obtain ⟨q, hq, rfl, hown, hv, hb⟩ := hrel
  obtain ⟨wo, rfl⟩ : ∃ wo : World, wo = wr := ⟨_, rfl⟩
  have HO := Lib.hid hown
  have HVV := Lib.hid hv
  have HBB := Lib.hid hb
  clear hown hv hb
  by_cases hlt : q < m
  ·
   have d0 : decide ((q : Int) < (m : Int)) = true := decide_eq_true (by omega)
   have d1 : decide (q < m) = true := decide_eq_true hlt
   have i0 : (0 : Int) ≤ (q : Int) := by omega
   have i1 : (q : Int) < (m : Int) := by omega
   have u1 : (q : Int) + 1 < 10000 := by have := HN.out; have := HYl.out; have := HMl.out; omega
   have HLT := Lib.hid hlt
   have hql : q < ys.length := by rw [← HMl.out]; exact hlt
   obtain ⟨b2, o2, e2, _, x2⟩ := z3m (zat HVV.out) (by rw [List.length_map]; omega)
   subst e2
   have y1 := yay x2 (i := q) (by rw [List.length_map]; exact hql)
   obtain ⟨y, hy⟩ : ∃ y, y = ys[q] := ⟨_, rfl⟩
   have hye : (ys.map fun k : Nat => (k : Int)).getD q 0 = (y : Int) := by
    rw [List.getD_eq_getElem?_getD, List.getElem?_eq_getElem (by rw [List.length_map]; exact hql), List.getElem_map, hy]; rfl
   rw [hye] at y1
   have HYn : Hid (y < l.length) := HYb.out y (by rw [hy]; exact List.getElem_mem _)
   have HTk : Hid (ys.take (q + 1) = ys.take q ++ [y]) := by show _ = _; rw [hy]; exact List.take_succ_eq_append_getElem hql
   have HYt : Hid (∀ z ∈ ys.take q, z < l.length) := fun z hz => HYb.out z (List.mem_of_mem_take hz)
   clear hlt hql x2 hy hye
   go_wp2_with fail
   go_loopw [10] (fun c wr => ∃ (S : List Bool) (x : Int), c = .int .i64 x ∧ (x = -1 ∨ ∃ a : Nat, x = (a : Int) ∧ a < n ∧ zao l a y = true) ∧ S = zgl (wayB l (ys.take q) y x) n ∧ OwnE Eboo wr w1.heap.size (.slice (some ⟨w1.heap.size, 0, none⟩) n n) S ∧ OwnE Eint wr wz.heap.size (.slice (some ⟨b2, o2, none⟩) m cv) (ys.map fun k : Nat => (k : Int)) ∧ Below w1.heap.size w1 wr) (fun c _ => (intOf c + 1).toNat)
   case atStart => exact ⟨_, (y : Int), rfl, .inr ⟨y, rfl, by have := HYn.out; have := HL.out; omega, zb8 HMm.out HYn.out⟩, (zkt fun i _ => (yd2 l _ y i).symm), HO.out, HVV.out, HBB.out⟩
   case round =>
    obtain ⟨S, x, rfl, hx, hS, hown, hv, hb⟩ := hrel
    have KO := Lib.hid hown
    have KV := Lib.hid hv
    have KB := Lib.hid hb
    have KS := Lib.hid hS
    have KL : Hid (S.length = n) := by show _ = _; rw [hS, zpb]
    clear hown hv hb hS y1
    rcases hx with rfl | ⟨a, rfl, ha, hay⟩
    ·
     have HEn : Hid (S = zgl (zgw l (ys.take (q + 1))) n) := by show _ = _; rw [KS.out, HTk.out]; exact zkt fun i _ => yod l _ y i
     go_wp2_with fail
     go_roundw
     case rel => exact ⟨q + 1, HLT.out, by go_num, by rw [← HEn.out]; exact KO.out, KV.out, KB.out⟩
     case measure => simp [intOf]; have := HLT.out; omega
    ·
     have t1 : ((a : Int) != -1) = true := by simp
     have j0 : (0 : Int) ≤ (a : Int) := by omega
     have j1 : (a : Int) < (n : Int) := by omega
     have c1 := yb8 KO.out (k := a) (by rw [KL.out]; exact ha)
     have c2 := z1f KO.out KL.out a
     obtain ⟨t, ht⟩ : ∃ t, t = bn S a := ⟨_, rfl⟩
     rw [← ht] at c1
     have HAn : Hid (a < l.length) := by show _ < _; rw [HL.out]; exact ha
     have htm : t = zgw l (ys.take q) a := by rw [ht, KS.out, z2z ha, yq8 HMm.out HAn.out]
     have HT := Lib.hid htm
     have HAy := Lib.hid hay
     have HA2 := Lib.hid ha
     clear ht htm hay ha
     cases t
     ·
      have z0 := (zaw (zab KB.out M1.out)).1
      dsimp only at z0
      rw [za7] at z0
      have y2 := zqo (zfu KB.out X1.out) (i := a) HAn.out
      have lb : b1 < w1.heap.size := by
       have h1 := (Array.getElem?_eq_some_iff.1 M1.out).1
       have := G1.out.size
       have := HB.out.size
       exact Nat.lt_of_lt_of_le (World.block_lt_of_cell? w ⟨b1, o1 + a * 35 + 32, none⟩ (zqo HX.out (i := a) HAn.out)) G1.out.size
      have l1 : w.heap.size < w1.heap.size := (Array.getElem?_eq_some_iff.1 M1.out).1
      have HP := Lib.hid (yhe KO.out KL.out a true)
      have HQ := Lib.hid (zos (o := a) KV.out GG.out (.bool true))
      have HC := Lib.hid (KB.out.setCell (p := ⟨w1.heap.size, a, none⟩) (Nat.le_refl _) (.bool true))
      have HNx : Hid ((nd l a).parent = -1 ∨ ∃ b : Nat, (nd l a).parent = (b : Int) ∧ b < a ∧ zao l b y = true) := yiy HMm.out HAn.out HYn.out HAy.out
      have HSt : Hid (S.set a true = zgl (wayB l (ys.take q) y (nd l a).parent) n) := by show _ = _; rw [KS.out]; exact yc5 fun i _ => yiz HMm.out HAn.out HAy.out
      obtain ⟨pa, hpa⟩ : ∃ pa, pa = (nd l a).parent := ⟨_, rfl⟩
      rw [← hpa] at y2 HNx HSt
      clear hpa
      go_wp2_with fail
      go_roundw
      case rel => exact ⟨_, pa, rfl, HNx.out.imp id (fun ⟨b, e, hb, hb2⟩ => ⟨b, e, by have := HA2.out; omega, hb2⟩), HSt.out, HP.out, HQ.out, HC.out⟩
      case measure => simp only [intOf]; rcases HNx.out with e | ⟨b, e, hb, _⟩ <;> (rw [e]; omega)
     ·
      have HEn : Hid (S = zgl (zgw l (ys.take (q + 1))) n) := by show _ = _; rw [KS.out, HTk.out]; exact zkt fun i _ => yi0 HMm.out HYt.out HYn.out HAy.out HT.out.symm i
      go_wp2_with fail
      go_roundw
      case rel => exact ⟨q + 1, HLT.out, by go_num, by rw [← HEn.out]; exact KO.out, KV.out, KB.out⟩
      case measure => simp [intOf]; have := HLT.out; omega
  ·
   obtain rfl : q = m := by omega
   have d0 : decide ((q : Int) < (q : Int)) = false := decide_eq_false (Int.lt_irrefl _)
   have HEn : Hid (ys.take q = ys) := by show _ = _; rw [HMl.out, List.take_length]
   rw [HEn.out] at HO
   clear hlt
   go_wp2_with fail
   (try rw [Exit.noGoto_ret])
   go_ret
   exact ⟨_, rfl, zbf HO.out G1.out.size, zac G1.out HBB.out⟩
theorem yp5 : yor := by
 intro s l j f w _ h
 have hl := zcn h
 obtain ⟨p, n, cp⟩ := s
 dsimp only at hl
 by_cases hm : MayT l
 ·
  rw [zqd hm, hl]
  exact (z6b p n cp l j f w h hl hm).mono fun _ _ h => h.list
 ·
  rw [ygp hm]
  exact (ya7 p n cp l j f w h hm).mono fun _ _ h => ⟨_, h.1, zbr _ _ _ _, h.2⟩
theorem yl4 (p : Option Addr) (n cp : Nat) (l : List Nd) (r : Rt) (f : Int) (w : World) (h : SlE Ene w (.slice p n cp) l) (hl : l.length = n) :
  Calls Tryz.prog 64 #[.agg (tr ⟨⟨p, n, cp⟩⟩), .agg (rc r), .int .i64 f] w fun e w' => e = .returned (.int .i64 (yam l r f)) ∧ Below w.heap.size w w' := by
 have HM := Lib.hid (fun W (g : Below w.heap.size w W) => ze3 ⟨p, n, cp⟩ l W (zad g h))
 have HF := Lib.hid (fun W (g : Below w.heap.size w W) => zdh ⟨p, n, cp⟩ l r W (zad g h))
 have HA := Lib.hid (fun (k : Int) W (g : Below w.heap.size w W) => zf2 ⟨p, n, cp⟩ l f k W (zad g h))
 obtain ⟨res, hres⟩ : ∃ res, res = yam l r f := ⟨_, rfl⟩
 rw [← hres]
 have HR := Lib.hid hres
 obtain ⟨a, ha⟩ : ∃ a, a = decide (MayT l) := ⟨_, rfl⟩
 rw [← ha] at HM
 have HAa := Lib.hid ha
 have HL := Lib.hid hl
 obtain ⟨W0, hW0⟩ : ∃ W0, W0 = (w.alloc (.cells (tr ⟨⟨p, n, cp⟩⟩) 24)).alloc (.cells (rc r) 34) := ⟨_, rfl⟩
 obtain ⟨hB, h0, h1, hz⟩ := zdb w _ _ _ _ W0 hW0
 have HB := Lib.hid hB
 have H0 := Lib.hid h0
 have H1 := Lib.hid h1
 have HW := Lib.hid hW0
 clear h hl hW0 hB h0 h1 hz ha hres
 go_enter Tryz.func64, Tryz.ntmps64
 go_wp2_with fail
 rw [← HW.out]
 refine (HM.out W0 HB.out).mono ?_
 rintro e w1 ⟨rfl, g1⟩
 have G1 := Lib.hid (zac HB.out g1)
 have N0 := Lib.hid (zab g1 H0.out)
 have N1 := Lib.hid (zab g1 H1.out)
 clear g1
 cases a
 ·
  have hX : Hid (res = -1) := by
   show _ = _
   rw [HR.out]
   refine if_neg ?_
   rw [zdi]
   exact fun e => of_decide_eq_false HAa.out.symm e.1
  go_wp2_with fail
  go_ret
  exact ⟨by rw [hX.out]; first | done | rfl, G1.out⟩
 ·
  have HMl := Lib.hid (of_decide_eq_true HAa.out.symm)
  obtain ⟨z0, z1, zl⟩ := zaw N0.out
  dsimp only at z0
  rw [za7] at z0
  have zr := zag N1.out (zav r)
  by_cases h0 : f < 0
  ·
   have t0 : decide (f < 0) = true := decide_eq_true h0
   have hX : Hid (res = -1) := by
    show _ = _
    rw [HR.out]
    refine if_neg ?_
    rw [zdi]
    exact fun e => by omega
   clear h0
   go_wp2_with fail
   go_ret
   exact ⟨by rw [hX.out]; first | done | rfl, G1.out⟩
  ·
   have t0 : decide (f < 0) = false := decide_eq_false h0
   by_cases h1 : (n : Int) ≤ f
   ·
    have t1 : decide ((n : Int) ≤ f) = true := decide_eq_true h1
    have hX : Hid (res = -1) := by
     show _ = _
     rw [HR.out]
     refine if_neg ?_
     rw [zdi]
     have := HL.out
     exact fun e => by omega
    clear h0 h1
    go_wp2_with fail
    go_ret
    exact ⟨by rw [hX.out]; first | done | rfl, G1.out⟩
   ·
    have t1 : decide ((n : Int) ≤ f) = false := decide_eq_false h1
    have HIs : Hid (isT l f = true) := zdi.2 ⟨HMl.out, by omega, by have := HL.out; omega⟩
    clear h0 h1
    go_wp2_with fail
    refine (HF.out w1 G1.out).mono ?_
    rintro e w2 ⟨rfl, g2⟩
    have G2 := Lib.hid (zac G1.out g2)
    obtain ⟨z2, z3, zl2⟩ := zaw (zab g2 N0.out)
    clear g2 z0 z1 zl zr z2 zl2
    obtain ⟨k, hk⟩ : ∃ k, k = zal l r := ⟨_, rfl⟩
    rw [← hk]
    have HAk := Lib.hid (HA.out k w2 G2.out)
    obtain ⟨q, hq⟩ : ∃ q, q = zb0 l f k := ⟨_, rfl⟩
    rw [← hq] at HAk
    have hX : Hid (res = if q = true then k else f) := by
     show _ = _
     rw [HR.out, hq, hk]
     exact if_pos HIs.out
    clear hk hq
    go_wp2_with fail
    refine HAk.out.mono ?_
    rintro e w3 ⟨rfl, g3⟩
    have G3 := Lib.hid (zac G2.out g3)
    clear g3 z3
    cases q
    ·
     go_wp2_with fail
     go_ret
     exact ⟨by rw [hX.out]; first | done | rfl, G3.out⟩
    ·
     go_wp2_with fail
     go_ret
     exact ⟨by rw [hX.out]; first | done | rfl, G3.out⟩
theorem ysw : ysl := by
 intro s l r f w h
 have hl := zcn h
 obtain ⟨p, n, cp⟩ := s
 exact yl4 p n cp l r f w h hl
theorem z4g (a b : Rt) (w : World) :
  Calls Tryz.prog 102 #[.agg (rc a), .agg (rc b)] w fun e w' => e = .returned (.bool (zbz a b)) ∧ Below w.heap.size w w' := by
 have hsa := zav a
 have hsb := zav b
 go_enter Tryz.func102, Tryz.ntmps102
 go_wp2
 go_loopw [6] (fun i wr => ∃ k n : Nat, k ≤ 32 ∧ i = .int .i64 k ∧ zbz a b = zgf a b k ∧ wr = ((w.alloc (.cells (rc a) 34)).alloc (.cells (rc b) 34)).drewN n) (fun i _ => 32 - (intOf i).toNat)
 case atStart => exact ⟨0, 0, by omega, rfl, rfl, rfl⟩
 case round =>
  obtain ⟨k, n, hk, rfl, hl, rfl⟩ := hrel
  have HL := Lib.hid hl; clear hl
  by_cases hlt : k < 32
  ·
   have i0 : (0 : Int) ≤ (k : Int) := by omega
   have i1 : (k : Int) < 32 := by omega
   by_cases hs : at8 a k = at8 b k
   ·
    have e : (at8 a k != at8 b k) = false := by simp [hs]
    have HE := Lib.hid (zvc a b k hlt hs); clear hs
    go_wp2
    go_quiet (fail)
    go_wp2
    go_roundw
    case rel => exact ⟨k + 1, _, by omega, by go_num, by rw [HL.out, HE.out], rfl⟩
    case measure => simp [intOf]; omega
   ·
    have e : (at8 a k != at8 b k) = true := by simp [hs]
    have HE := Lib.hid (zr5 a b k hlt hs); clear hs
    go_wp2
    go_quiet (fail)
    go_wp2
    go_quiet (fail)
    go_wp2
    go_ret
    exact ⟨by rw [HL.out, HE.out]; rfl, zak (zak (zak yjm _) _) _⟩
  ·
   obtain rfl : k = 32 := by omega
   go_wp2
   go_ret
   exact ⟨by rw [HL.out, zx2]; rfl, zak yjm _⟩
def zhi (l : List Nd) (i j : Nat) : List Nat := (List.range j).filter fun k => decide ((nd l k).parent = (i : Int))
theorem z55 (l : List Nd) (i j : Nat) : zev l i j = (zhi l i j).map fun k : Nat => (k : Int) := rfl
theorem z0w {l : List Nd} {i j k : Nat} (h : k ∈ zhi l i j) : k < j := by
 unfold zhi at h
 exact List.mem_range.1 (List.mem_filter.1 h).1
def zrd (l : List Nd) (a : List UInt64) (b : List Bool) (o : Option Nat) (k : Nat) : Option Nat :=
 if bn b k = true then (match o with | none => some k | some m => if zch l zbz (fn a) k m = true then some k else some m) else o
def zh3 (l : List Nd) (a : List UInt64) (b : List Bool) (ks : List Nat) : Option Nat := ks.foldl (zrd l a b) none
section
variable {l : List Nd} {a : List UInt64} {b : List Bool}
theorem zq3 (ks : List Nat) (k : Nat) : zh3 l a b (ks ++ [k]) = zrd l a b (zh3 l a b ks) k := by
 unfold zh3
 rw [List.foldl_append]; rfl
theorem zwb {o : Option Nat} {k : Nat} (h : bn b k = false) : zrd l a b o k = o := by
 unfold zrd; rw [h]; rfl
theorem znc {k : Nat} (h : bn b k = true) : zrd l a b none k = some k := by
 unfold zrd; rw [h]; rfl
theorem zrf {k m : Nat} (h : bn b k = true) : zrd l a b (some m) k = if zch l zbz (fn a) k m = true then some k else some m := by
 unfold zrd; rw [h]; rfl
theorem z1k (i : Nat) : ∀ j, zh3 l a b (zhi l i j) = zgr l a b i j
 | 0 => rfl
 | j + 1 => by
  have e : zhi l i (j + 1) = zhi l i j ++ (if (nd l j).parent = (i : Int) then [j] else []) := by
   unfold zhi
   rw [List.range_succ, List.filter_append]
   by_cases hp : (nd l j).parent = (i : Int) <;> simp [hp]
  rw [e]
  by_cases hp : (nd l j).parent = (i : Int)
  ·
   rw [if_pos hp, zq3, z1k i j]
   cases hb : bn b j
   ·
    rw [zwb hb, zsj (by unfold zdx; rw [hb, Bool.and_false])]
   ·
    have hc : zdx l (bn b) i j = true := by unfold zdx; rw [hb, decide_eq_true hp]; rfl
    cases hq : zgr l a b i j with
    | none => rw [znc hb, zw0 hc hq]
    | some m => rw [zrf hb, zz4 hc hq]
  ·
   rw [if_neg hp, List.append_nil, z1k i j, zsj (by unfold zdx; rw [decide_eq_false hp]; rfl)]
theorem yig {ks : List Nat} {k m : Nat} {o : Option Nat} (hs : ∀ x, o = some x → x ∈ ks) (h : zrd l a b o k = some m) : m ∈ ks ++ [k] := by
 cases hb : bn b k
 ·
  rw [zwb hb] at h
  exact List.mem_append.2 (.inl (hs m h))
 ·
  cases o with
  | none =>
   rw [znc hb] at h
   obtain rfl := Option.some.inj h
   simp
  | some x =>
   rw [zrf hb] at h
   split at h
   ·
    obtain rfl := Option.some.inj h
    simp
   ·
    obtain rfl := Option.some.inj h
    exact List.mem_append.2 (.inl (hs x rfl))
theorem z4a (ks : List Nat) : ∀ j, j ≤ ks.length → ∀ m, zh3 l a b (ks.take j) = some m → m ∈ ks.take j
 | 0, _, m, h => by rw [List.take_zero] at h; cases h
 | j + 1, hj, m, h => by
  have e : ks.take (j + 1) = ks.take j ++ [ks[j]] := by rw [List.take_add_one, List.getElem?_eq_getElem (by omega)]; rfl
  rw [e] at h ⊢
  rw [zq3] at h
  exact yig (fun x hx => z4a ks j (by omega) x hx) h
theorem ycg {ks : List Nat} {j : Nat} (hj : j < ks.length) : zh3 l a b (ks.take (j + 1)) = zrd l a b (zh3 l a b (ks.take j)) (ks.getD j 0) := by
 have e : ks.take (j + 1) = ks.take j ++ [ks.getD j 0] := by rw [List.take_add_one, List.getD_eq_getElem?_getD, List.getElem?_eq_getElem hj]; rfl
 rw [e, zq3]
end
theorem z40 (p q1 q2 : Option Addr) (n cp m1 c1 m2 c2 : Nat) (l : List Nd) (a : List UInt64) (b : List Bool) (w : World) (h : SlE Ene w (.slice p n cp) l) (hl : l.length = n) (ha : a.length = m1) (hb : b.length = m2) :
  Calls Tryz.prog 171 #[.agg (tr ⟨⟨p, n, cp⟩⟩), .slice q1 m1 c1, .slice q2 m2 c2] w fun e w' => e = .returned (.bool (znh l a b)) ∧ Below w.heap.size w w' := by
 have HM := Lib.hid (fun W (g : Below w.heap.size w W) => ze3 ⟨p, n, cp⟩ l W (zad g h))
 obtain ⟨r, hr⟩ : ∃ r, r = decide (MayT l) := ⟨_, rfl⟩
 obtain ⟨x, hx⟩ : ∃ x, x = ((m1 : Int) == (n : Int)) := ⟨_, rfl⟩
 obtain ⟨y, hy⟩ : ∃ x, x = ((m2 : Int) == (n : Int)) := ⟨_, rfl⟩
 rw [← hr] at HM
 have HT : Hid (znh l a b = (r && (x && y))) := by
  show znh l a b = _
  rw [Bool.eq_iff_iff, zl5, hr, hx, hy, Bool.and_eq_true, Bool.and_eq_true, decide_eq_true_iff, beq_iff_eq, beq_iff_eq, ha, hb, hl]
  exact ⟨fun h => ⟨h.1, by omega, by omega⟩, fun h => ⟨h.1, by omega, by omega⟩⟩
 rw [HT.out]
 have tx : ((m1 : Int) == (n : Int)) = x := hx.symm
 have ty : ((m2 : Int) == (n : Int)) = y := hy.symm
 obtain ⟨W0, hW0⟩ : ∃ W0, W0 = w.alloc (.cells (tr ⟨⟨p, n, cp⟩⟩) 24) := ⟨_, rfl⟩
 have HB : Hid (Below w.heap.size w W0) := by rw [hW0]; exact below1
 have M0 : Hid (W0.heap[w.heap.size]? = some (.cells (tr ⟨⟨p, n, cp⟩⟩) 24 (0, 0))) := by rw [hW0]; exact heap_alloc_last w _
 have HW := Lib.hid hW0
 clear hW0 h hl ha hb hr hx hy HT
 go_enter Tryz.func171, Tryz.ntmps171
 go_wp2_with fail
 rw [← HW.out]
 refine (HM.out W0 HB.out).mono ?_
 rintro e w1 ⟨rfl, g1⟩
 have G1 := Lib.hid (zac HB.out g1)
 obtain ⟨z0, z1, zl⟩ := zaw (zab g1 M0.out)
 dsimp only at z0
 rw [za7] at z0
 clear g1
 cases r
 ·
  go_wp2_with fail
  go_ret
  exact ⟨rfl, G1.out⟩
 ·
  cases x
  ·
   go_wp2_with fail
   go_ret
   exact ⟨rfl, G1.out⟩
  ·
   cases y
   ·
    go_wp2_with fail
    go_ret
    exact ⟨rfl, G1.out⟩
   ·
    go_wp2_with fail
    go_ret
    exact ⟨rfl, G1.out⟩
theorem zo8 (p q1 q2 : Option Addr) (n cp m1 c1 m2 c2 : Nat) (l : List Nd) (a : List UInt64) (b : List Bool) (i : Int) (w : World) (h : SlE Ene w (.slice p n cp) l) (hl : l.length = n) (ha : a.length = m1) (hb : b.length = m2) :
  Calls Tryz.prog 142 #[.agg (tr ⟨⟨p, n, cp⟩⟩), .slice q1 m1 c1, .slice q2 m2 c2, .int .i64 i] w fun e w' => e = .returned (.bool (ziq l a b i)) ∧ Below w.heap.size w w' := by
 have HM := Lib.hid (fun W (g : Below w.heap.size w W) => z40 p q1 q2 n cp m1 c1 m2 c2 l a b W (zad g h) hl ha hb)
 obtain ⟨r, hr⟩ : ∃ r, r = znh l a b := ⟨_, rfl⟩
 rw [← hr] at HM
 obtain ⟨x, hx⟩ : ∃ x, x = ziq l a b i := ⟨_, rfl⟩
 rw [← hx]
 have HX : Hid (x = (r && (decide (0 ≤ i) && decide (i < (n : Int))))) := by rw [hx, hr]; unfold ziq; rw [hl]; rfl
 obtain ⟨W0, hW0⟩ : ∃ W0, W0 = w.alloc (.cells (tr ⟨⟨p, n, cp⟩⟩) 24) := ⟨_, rfl⟩
 have HB : Hid (Below w.heap.size w W0) := by rw [hW0]; exact below1
 have M0 : Hid (W0.heap[w.heap.size]? = some (.cells (tr ⟨⟨p, n, cp⟩⟩) 24 (0, 0))) := by rw [hW0]; exact heap_alloc_last w _
 have HW := Lib.hid hW0
 clear hW0 h hl ha hb hr hx
 go_enter Tryz.func142, Tryz.ntmps142
 go_wp2_with fail
 rw [← HW.out]
 refine (HM.out W0 HB.out).mono ?_
 rintro e w1 ⟨rfl, g1⟩
 have G1 := Lib.hid (zac HB.out g1)
 obtain ⟨z0, z1, zl⟩ := zaw (zab g1 M0.out)
 dsimp only at z0
 rw [za7] at z0
 cases r
 ·
  go_wp2_with fail
  go_ret
  exact ⟨by rw [HX.out]; rfl, G1.out⟩
 ·
  by_cases h0 : 0 ≤ i
  ·
   have t0 : decide (0 ≤ i) = true := decide_eq_true h0
   by_cases h1 : i < (n : Int)
   ·
    have t1 : decide (i < (n : Int)) = true := decide_eq_true h1
    have hX : Hid (x = true) := by show x = true; rw [HX.out, t0, t1]; rfl
    clear h0 h1
    go_wp2_with fail
    go_ret
    exact ⟨by rw [hX.out]; first | done | rfl, G1.out⟩
   ·
    have t1 : decide (i < (n : Int)) = false := decide_eq_false h1
    have hX : Hid (x = false) := by show x = false; rw [HX.out, t0, t1]; rfl
    clear h0 h1
    go_wp2_with fail
    go_ret
    exact ⟨by rw [hX.out]; first | done | rfl, G1.out⟩
  ·
   have t0 : decide (0 ≤ i) = false := decide_eq_false h0
   have hX : Hid (x = false) := by show x = false; rw [HX.out, t0]; rfl
   clear h0
   go_wp2_with fail
   go_ret
   exact ⟨by rw [hX.out]; first | done | rfl, G1.out⟩
end Go.Proofs.YtkalofboioffiaaGreat
