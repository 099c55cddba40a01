import Derived.Test.YtkalofboioffiaaGreatQ27
import Derived.RangeFuncOwn
namespace Go.Proofs.YtkalofboioffiaaGreat
open Go.RowKit
set_option maxRecDepth 200000
set_option maxHeartbeats 64000000
def cntL (l : List Nd) (ls : List Lk) (bal : List UInt64) : List Lk := if zfe l ls bal = true then ls.filter (cntB l bal) else []
def zgc (k : List Ck) (y : Lk) : Bool := decide (y.s ∈ k) && !decide (y.t ∈ k)
section
variable {l : List Nd} {ls : List Lk} {bal : List UInt64} {k js : List Ck}
theorem z24 (l : List Nd) (ls : List Lk) (bal : List UInt64) : (cntL l ls bal).length ≤ ls.length := by
 unfold cntL
 split
 ·
  exact List.length_filter_le _ _
 ·
  exact Nat.zero_le _
theorem zub (h : zfe l ls bal = true) : cntL l ls bal = ls.filter (cntB l bal) := by unfold cntL; rw [if_pos h]
theorem z9m (h : zfe l ls bal = false) : cntL l ls bal = [] := by unfold cntL; rw [if_neg (by rw [h]; exact Bool.false_ne_true)]
theorem zs4 {α : Type} {p : α → Bool} {x : α} {L : List α} : ∀ (ys : List α), ys ++ [x] <+: L → (∀ y ∈ ys, p y = false) → p x = true → L.find? p = some x
 | [], h, _, hx => by
  obtain ⟨t, rfl⟩ := h
  show List.find? p (x :: t) = _
  rw [List.find?_cons, hx]
 | y :: ys, h, ha, hx => by
  obtain ⟨t, rfl⟩ := h
  show List.find? p (y :: (ys ++ [x] ++ t)) = _
  rw [List.find?_cons, ha y List.mem_cons_self]
  exact zs4 ys ⟨t, rfl⟩ (fun z hz => ha z (List.mem_cons_of_mem _ hz)) hx
theorem zkc {α : Type} (p q : α → Bool) : ∀ L : List α, (L.filter p).find? q = L.find? fun a => p a && q a
 | [] => rfl
 | a :: L => by
  rw [List.filter_cons, List.find?_cons]
  cases h : p a
  ·
   rw [if_neg Bool.false_ne_true, Bool.false_and]
   exact zkc p q L
  ·
   rw [if_pos rfl, List.find?_cons, Bool.true_and, zkc p q L]
theorem zpt (cnt : Lk → Bool) (ls : List Lk) (k : List Ck) : zcs cnt ls k = (ls.filter cnt).find? (zgc k) := by
 rw [zkc]; rfl
theorem yg3 {x : Lk} {ys : List Lk} (h : ys ++ [x] <+: cntL l ls bal) (h1 : ∀ y ∈ ys, zgc k y = false) (h2 : zgc k x = true) : zc5 l ls bal (k ++ [x.t]) = zc5 l ls bal k ∧ zn7 ls (k ++ [x.t]) < zn7 ls k := by
 cases ht : zfe l ls bal
 ·
  rw [z9m ht] at h
  obtain ⟨t, e⟩ := h
  simp at e
 ·
  have hf := zs4 ys h h1 h2
  rw [zub ht, ← zpt] at hf
  rw [zlo ht, zlo ht]
  exact ⟨(ybp hf).symm, zfw hf⟩
theorem yg4 (h : ∀ y ∈ cntL l ls bal, zgc k y = false) : zc5 l ls bal k = k := by
 cases ht : zfe l ls bal
 ·
  exact yg2 ht
 ·
  rw [zlo ht]
  rw [zub ht] at h
  refine zd2 ?_ _
  rw [zpt]
  exact List.find?_eq_none.2 fun y hy => by rw [h y hy]; exact Bool.false_ne_true
def yl5 (js : List Ck) (y : Lk) : Bool := decide (y.t ∈ js) && decide ((y.t.epoch.toNat : Int) = ((y.s.epoch + 1).toNat : Int))
def srcs (js : List Ck) (L : List Lk) : List Ck := (L.filter (yl5 js)).map Lk.s
theorem ydd (js : List Ck) (L : List Lk) (x : Lk) : srcs js (L ++ [x]) = srcs js L ++ (if yl5 js x = true then [x.s] else []) := by
 unfold srcs
 rw [List.filter_append, List.map_append]
 congr 1
 rw [List.filter_cons]
 split <;> rfl
theorem zps : zcx l ls bal js = js.filter fun c => decide (c ∈ srcs js (cntL l ls bal)) := by
 cases ht : zfe l ls bal
 ·
  rw [z5w ht, z9m ht]
  refine (List.filter_eq_nil_iff.2 fun c _ => ?_).symm
  simp [srcs]
 ·
  rw [zpq ht, zub ht]
  unfold zpr
  refine List.filter_congr fun c _ => ?_
  rw [Bool.eq_iff_iff, decide_eq_true_iff]
  unfold yai srcs yl5
  rw [List.any_eq_true, List.mem_map]
  have hl := (zl6.1 ht).2.1
  have hup : ∀ y ∈ ls, y.s.epoch.toNat < y.t.epoch.toNat := fun y hy => by
   obtain ⟨i, hi, rfl⟩ := List.getElem_of_mem hy
   have := ((zd1.1 hl).1 i hi).1.1
   rwa [zcy hi] at this
  have key : ∀ y ∈ ls, (decide (y.t.epoch.toNat = y.s.epoch.toNat + 1)) = decide ((y.t.epoch.toNat : Int) = ((y.s.epoch + 1).toNat : Int)) := fun y hy => by
   have h1 := hup y hy
   have h2 := y.t.epoch.toNat_lt
   have h3 : (y.s.epoch + 1).toNat = (y.s.epoch.toNat + 1) % 18446744073709551616 := by rw [UInt64.toNat_add]; rfl
   rw [h3, Nat.mod_eq_of_lt (by omega)]
   exact decide_eq_decide.2 (by omega)
  constructor
  ·
   rintro ⟨y, hy, h⟩
   rw [Bool.and_eq_true, Bool.and_eq_true, Bool.and_eq_true] at h
   obtain ⟨h1, h2, h3, h4⟩ := h
   have e := of_decide_eq_true h3
   subst e
   refine ⟨y, List.mem_filter.2 ⟨List.mem_filter.2 ⟨hy, h1⟩, ?_⟩, rfl⟩
   rw [Bool.and_eq_true]
   exact ⟨h2, by rw [← key y hy]; exact h4⟩
  ·
   rintro ⟨y, hy, rfl⟩
   obtain ⟨hy, h2⟩ := List.mem_filter.1 hy
   obtain ⟨hy, h1⟩ := List.mem_filter.1 hy
   rw [Bool.and_eq_true] at h2
   refine ⟨y, hy, ?_⟩
   rw [Bool.and_eq_true, Bool.and_eq_true, Bool.and_eq_true]
   exact ⟨h1, h2.1, decide_eq_true rfl, by rw [key y hy]; exact h2.2⟩
theorem zmj {lt : Rt → Rt → Bool} {ok : Ck → Bool} {b : Nat} : ∀ (L : List Ck) (o : Ck), zeb lt ok (L.filter fun c => !decide (c.epoch.toNat ≤ b)) o = zeb lt (fun c => ok c && decide (b < c.epoch.toNat)) L o
 | [], o => rfl
 | c :: L, o => by
  rw [List.filter_cons]
  by_cases h : c.epoch.toNat ≤ b
  ·
   rw [if_neg (by rw [decide_eq_true h]; decide), zmj L o]
   show _ = zeb lt _ L (if ((ok c && decide (b < c.epoch.toNat)) && betC lt o c) = true then c else o)
   rw [decide_eq_false (show ¬ b < c.epoch.toNat by omega), Bool.and_false, Bool.false_and, if_neg Bool.false_ne_true]
  ·
   rw [if_pos (by rw [decide_eq_false h]; rfl)]
   show zeb lt ok _ (if (ok c && betC lt o c) = true then c else o) = zeb lt _ L (if ((ok c && decide (b < c.epoch.toNat)) && betC lt o c) = true then c else o)
   rw [decide_eq_true (show b < c.epoch.toNat by omega), Bool.and_true]
   exact zmj L _
theorem ybv {fin : Ck} : zjz l ((zcx l ls bal js).filter fun c => !decide (c.epoch.toNat ≤ fin.epoch.toNat)) fin = zgn l ls bal js fin := zmj _ _
end
def yki (l : List Nd) (ls : List Lk) (bal : List UInt64) (w : World) (e : Ending) (w' : World) : Prop :=
 ∃ (b m c : Nat) (p : Option Addr), e = .returned (.func (.func 203) #[] #[.pointer (some ⟨b, 0, none⟩)]) ∧ w'.heap[b]? = some (.cells #[.slice p m c] 31 (0, 0)) ∧ (cntL l ls bal).length = m ∧
  OwnE Elk w' w.heap.size (.slice p m c) (cntL l ls bal) ∧ w.heap.size ≤ b ∧ Below w.heap.size w w'
theorem z5g (s : SlV) (p : Option Addr) (n cp : Nat) (vb : Value) (l : List Nd) (ls : List Lk) (bal : List UInt64) (w : World) (h : SlE Ene w (sv s) l) (h1 : SlE Elk w (.slice p n cp) ls) (h2 : SlE Enum w vb bal) (hl : ls.length = n) (hn : n ≤ 1000) :
  Calls Tryz.prog 154 #[.agg (tr ⟨s⟩), .slice p n cp, vb] w (yki l ls bal w) := by
 have HBh := Lib.hid (fun c d W (g : Below w.heap.size w W) => zs8 s l c d W (zad g h))
 have HMy := Lib.hid (fun W (g : Below w.heap.size w W) => ze3 s l W (zad g h))
 have HLm := Lib.hid (fun W (g : Below w.heap.size w W) => ybc (.slice p n cp) ls W (zad g h1))
 have HSm := Lib.hid (fun W (g : Below w.heap.size w W) => zow vb bal W (zad g h2))
 have HSt := Lib.hid (fun m W (g : Below w.heap.size w W) => ydf vb bal m W (zad g h2))
 have HL := Lib.hid hl
 have HN := Lib.hid hn
 have K := Lib.hid h1
 have HVf : Hid (∀ (q : Option Addr) (m c : Nat) W, Calls Tryz.prog 180 #[.slice q m c] W fun e w' => e = .returned (.func (.func 203) #[] #[.pointer (some ⟨W.heap.size, 0, none⟩)]) ∧ w' = W.alloc (.cells #[.slice q m c] 31)) := zze
 obtain ⟨vL, hvL⟩ : ∃ vL, vL = cntL l ls bal := ⟨_, rfl⟩
 have HEnd : Hid (∀ (q : Option Addr) (m c : Nat) (W W' : World), OwnE Elk W w.heap.size (.slice q m c) vL → vL.length = m → Below w.heap.size w W → W' = W.alloc (.cells #[.slice q m c] 31) → yki l ls bal w (.returned (.func (.func 203) #[] #[.pointer (some ⟨W.heap.size, 0, none⟩)])) W') := fun q m c W W' ho hlm hb e => by
  subst e
  refine ⟨W.heap.size, m, c, q, rfl, heap_alloc_last W _, by rw [← hvL]; exact hlm, by rw [← hvL]; exact zba ho _, hb.size, zac hb below1⟩
 have HvL := Lib.hid hvL
 obtain ⟨ma, hma⟩ : ∃ b, b = decide (MayT l) := ⟨_, rfl⟩
 obtain ⟨mb, hmb⟩ : ∃ b, b = mayL ls := ⟨_, rfl⟩
 obtain ⟨mc, hmc⟩ : ∃ b, b = mayB bal := ⟨_, rfl⟩
 rw [← hma] at HMy
 rw [← hmb] at HLm
 rw [← hmc] at HSm
 have HTo : Hid (zfe l ls bal = (ma && (mb && mc))) := by show _ = _; rw [hma, hmb, hmc]; rfl
 obtain ⟨W0, hW0⟩ : ∃ W0, W0 = w.alloc (.cells (tr ⟨s⟩) 24) := ⟨_, rfl⟩
 have HB : Hid (Below w.heap.size w W0) := by rw [hW0]; exact below1
 have T0 : Hid (W0.heap[w.heap.size]? = some (.cells (tr ⟨s⟩) 24 (0, 0))) := by rw [hW0]; exact heap_alloc_last w _
 have HW := Lib.hid hW0
 have z0 := (zaw T0.out).2.1
 obtain ⟨ib, hib, hz0, hz1, hz2⟩ := info_parts z0v
 clear hW0 h h1 h2 hl hn hma hmb hmc hvL ib hib hz0 hz1 hz2
 go_enter Tryz.func154, Tryz.ntmps154
 go_upto_region 1 with fail
 rw [← HW.out]
 go_wp2_with fail
 refine (HMy.out W0 HB.out).mono ?_
 rintro e w1 ⟨rfl, g⟩
 have G1 := Lib.hid (zac HB.out g)
 replace T0 := Lib.hid (zab g T0.out)
 clear g z0 HB HW HMy
 cases ma
 ·
  have HF : Hid (vL = []) := by show vL = []; rw [HvL.out]; unfold cntL; rw [HTo.out]; rfl
  go_wp2_with fail
  refine (HVf.out _ _ _ _).mono ?_
  rintro e w2 ⟨rfl, g⟩
  have HG := Lib.hid g
  clear g
  go_wp2_with fail
  go_ret
  exact HEnd.out none 0 0 w1 w2 (by rw [HF.out]; exact zb3 _ _ _) (by rw [HF.out]; rfl) G1.out HG.out
 ·
  go_wp2_with fail
  refine (HLm.out w1 G1.out).mono ?_
  rintro e w2 ⟨rfl, g⟩
  have G2 := Lib.hid (zac G1.out g)
  replace T0 := Lib.hid (zab g T0.out)
  clear g HLm
  cases mb
  ·
   have HF : Hid (vL = []) := by show vL = []; rw [HvL.out]; unfold cntL; rw [HTo.out]; rfl
   go_wp2_with fail
   refine (HVf.out _ _ _ _).mono ?_
   rintro e w3 ⟨rfl, g⟩
   have HG := Lib.hid g
   clear g
   go_wp2_with fail
   go_ret
   exact HEnd.out none 0 0 w2 w3 (by rw [HF.out]; exact zb3 _ _ _) (by rw [HF.out]; rfl) G2.out HG.out
  ·
   go_wp2_with fail
   refine (HSm.out w2 G2.out).mono ?_
   rintro e w3 ⟨rfl, g⟩
   have G3 := Lib.hid (zac G2.out g)
   replace T0 := Lib.hid (zab g T0.out)
   clear g HSm G1 G2
   cases mc
   ·
    have HF : Hid (vL = []) := by show vL = []; rw [HvL.out]; unfold cntL; rw [HTo.out]; rfl
    go_wp2_with fail
    refine (HVf.out _ _ _ _).mono ?_
    rintro e w4 ⟨rfl, g⟩
    have HG := Lib.hid g
    clear g
    go_wp2_with fail
    go_ret
    exact HEnd.out none 0 0 w3 w4 (by rw [HF.out]; exact zb3 _ _ _) (by rw [HF.out]; rfl) G3.out HG.out
   ·
    have HF : Hid (vL = ls.filter (cntB l bal)) := by show vL = _; rw [HvL.out]; unfold cntL; rw [HTo.out]; rfl
    go_wp2_with fail
    go_loopw [7, 22] (fun v i wr => ∃ (j : Nat), j ≤ n ∧ i = .int .i64 (j : Int) ∧ OwnE Elk wr w.heap.size v ((ls.take j).filter (cntB l bal)) ∧ Below w.heap.size w wr ∧ wr.heap[w.heap.size]? = some (.cells (tr ⟨s⟩) 24 (0, 0)) ∧ (∀ k, v.ownBlock = some k → w.heap.size < k)) (fun _ i _ => n - (intOf i).toNat)
    case atStart => exact ⟨0, Nat.zero_le _, rfl, zb3 _ _ _, G3.out, T0.out, fun k e => by cases e⟩
    case round =>
     obtain ⟨j, hj, rfl, ho, hg, ht, hne⟩ := hrel
     have HO := Lib.hid ho
     have HG := Lib.hid hg
     have HT := Lib.hid ht
     have HNe := Lib.hid hne
     clear ho hg ht hne T0 G3
     by_cases hlt : j < n
     ·
      have i0 : (0 : Int) ≤ (j : Int) := by omega
      have i1 : (j : Int) < (n : Int) := by omega
      have d0 : decide ((j : Int) < (n : Int)) = true := decide_eq_true i1
      have d0' : decide (j < n) = true := decide_eq_true hlt
      have u1 : (j : Int) + 1 < 10000 := by have := HN.out; omega
      have HLT := Lib.hid hlt
      obtain ⟨b1, o1, rfl, q1, x1⟩ := zkj K.out (by have := HL.out; omega)
      have y1 := Go.Proofs.YtkalofboioffiaaGreat.keep HG.out (zqg x1 (i := j) (by have := HL.out; omega))
      have HTk : Hid ((ls.take (j + 1)).filter (cntB l bal) = (ls.take j).filter (cntB l bal) ++ (if cntB l bal (lkAt ls j) = true then [lkAt ls j] else [])) := by
       show _ = _
       rw [List.take_add_one, List.getElem?_eq_getElem (by have := HL.out; omega), List.filter_append, zcy (by have := HL.out; omega)]
       congr 1
       show List.filter _ [_] = _
       rw [List.filter_cons]
       rfl
      generalize lkAt ls j = X at *
      obtain ⟨cb, hcb⟩ : ∃ b, b = zb9 l X.t X.s := ⟨_, rfl⟩
      obtain ⟨cm, hcm⟩ : ∃ b, b = yg6 bal X.mask := ⟨_, rfl⟩
      have HCb := Lib.hid (HBh.out X.t X.s)
      have HCm := Lib.hid (HSt.out X.mask)
      rw [← hcb] at HCb
      rw [← hcm] at HCm
      have HCc : Hid (cntB l bal X = (cb && cm)) := by show _ = _; rw [hcb, hcm]; rfl
      have HKl : Hid (((ls.take j).filter (cntB l bal)).length ≤ 1000) := by
       show _ ≤ _
       have := List.length_filter_le (cntB l bal) (ls.take j)
       rw [List.length_take] at this
       have := HN.out
       omega
      rw [HCc.out] at HTk
      obtain ⟨k, hk⟩ : ∃ k, k = (ls.take j).filter (cntB l bal) := ⟨_, rfl⟩
      rw [← hk] at HO HTk HKl
      clear x1 q1 hlt hj hcb hcm hk
      go_upto_region 6 with fail
      obtain ⟨W5, hW5⟩ : ∃ W5, W5 = wr.alloc (.cells (lk X) 118) := ⟨_, rfl⟩
      rw [← hW5]
      have g5 : Below wr.heap.size wr W5 := by rw [hW5]; exact below1
      have X5 : Hid (W5.heap[wr.heap.size]? = some (.cells (lk X) 118 (0, 0))) := by show _ = _; rw [hW5]; exact heap_alloc_last wr _
      replace HG := Lib.hid (zac HG.out g5)
      replace HT := Lib.hid (zab g5 HT.out)
      replace HO := Lib.hid (zam g5 HO.out)
      obtain ⟨Q, hQ⟩ : ∃ Q, Q = wr.heap.size := ⟨_, rfl⟩
      rw [← hQ] at X5 ⊢
      clear hW5 y1 hQ g5
      have z1 := (lk_v X5.out).m
      go_wp2_with fail
      refine (HCm.out _ HG.out).mono ?_
      rintro e w5 ⟨rfl, g⟩
      replace HG := Lib.hid (zac HG.out g)
      replace HT := Lib.hid (zab g HT.out)
      replace X5 := Lib.hid (zab g X5.out)
      replace HO := Lib.hid (zam g HO.out)
      clear g z1
      have z0 := (zaw HT.out).2.1
      have z1 := (lk_v X5.out).s
      have z2 := (lk_v X5.out).t
      cases cm
      ·
       go_wp2_with fail
       go_roundw
       case rel => exact ⟨j + 1, HLT.out, by go_num, by rw [HTk.out, Bool.and_false, if_neg Bool.false_ne_true, List.append_nil]; exact HO.out, HG.out, HT.out, HNe.out⟩
       case measure => simp [intOf]; have := HLT.out; omega
      ·
       go_wp2_with fail
       refine (HCb.out _ HG.out).mono ?_
       rintro e w6 ⟨rfl, g⟩
       replace HG := Lib.hid (zac HG.out g)
       replace HT := Lib.hid (zab g HT.out)
       replace X5 := Lib.hid (zab g X5.out)
       replace HO := Lib.hid (zam g HO.out)
       clear g z0 z1 z2
       cases cb
       ·
        go_wp2_with fail
        go_roundw
        case rel => exact ⟨j + 1, HLT.out, by go_num, by rw [HTk.out, Bool.false_and, if_neg Bool.false_ne_true, List.append_nil]; exact HO.out, HG.out, HT.out, HNe.out⟩
        case measure => simp [intOf]; have := HLT.out; omega
       ·
        have z1 := (lk_v X5.out).a
        go_wp2_with (at_builtin; refine zbs Klk _ rfl _ _ rfl w.heap.size _ k rfl (zba HO.out _) _ [X] rfl (ymp _ X _ rfl) (by have := HKl.out; simp; omega) (by have := HG.out.size; simp; omega) ?_; intro v' w7 ho7 hg7)
        go_roundw
        case rel =>
         have h1 : ∀ q, v'.ownBlock = some q → w.heap.size < q := fun q hq => by
          rcases hg7.2 with e | e
          ·
           exact HNe.out q (e.symm.trans hq)
          ·
           have := e q hq; simp at this; have := (Array.getElem?_eq_some_iff.1 HT.out).1; omega
         have h2 : Below w.heap.size w w7 := (zac HG.out below1).trans (hg7.own (zba HO.out _) (by have := HG.out.size; simp; omega))
         exact ⟨j + 1, HLT.out, by go_num, by rw [HTk.out, Bool.true_and, if_pos rfl]; exact ho7, h2, hg7.alloc.heap HT.out (fun e => by have := HNe.out _ e; omega), h1⟩
        case measure => simp [intOf]; have := HLT.out; omega
     ·
      obtain rfl : j = n := by omega
      have d0 : decide ((j : Int) < (j : Int)) = false := decide_eq_false (Int.lt_irrefl _)
      have d0' : decide (j < j) = false := decide_eq_false (Nat.lt_irrefl _)
      rw [List.take_of_length_le (by rw [HL.out]; exact Nat.le_refl _), ← HF.out] at HO
      obtain ⟨pv, cv, rfl⟩ := zei HO.out
      have HLv : Hid (∃ m, vL.length = m) := ⟨_, rfl⟩
      obtain ⟨m, hm⟩ := HLv.out
      rw [hm] at HO
      have HM := Lib.hid hm
      rw [hm]
      clear hlt hm HLv
      go_wp2_with fail
      refine (HVf.out _ _ _ _).mono ?_
      rintro e w4 ⟨rfl, g⟩
      have HGe := Lib.hid g
      clear g
      go_wp2_with fail
      go_ret
      exact HEnd.out pv m cv wr w4 HO.out HM.out HG.out HGe.out
theorem zsy (s : SlV) (u vb : Value) (l : List Nd) (ls : List Lk) (bal : List UInt64) (w : World) (h : SlE Ene w (sv s) l) (h1 : SlE Elk w u ls) (h2 : SlE Enum w vb bal) (hn : ls.length ≤ 1000) :
  Calls Tryz.prog 154 #[.agg (tr ⟨s⟩), u, vb] w (yki l ls bal w) := by
 have k := h1
 obtain ⟨p, cp, rfl, _⟩ := zar h1
 exact z5g s p _ cp vb l ls bal w h k h2 rfl hn
section
open Go.Maps
def setC : List Ck → DataW Unit
 | [] => .map []
 | c :: l => (setC l).put (ck c) (.agg [])
theorem zlz : ∀ l, Tidy (setC l)
 | [] => tidy_empty
 | _ :: l => (zlz l).put (z3n _) _
theorem zov (c : Ck) : ∀ l, Maps.has (setC l) (ck c) = decide (c ∈ l)
 | [] => by rw [decide_eq_false List.not_mem_nil]; rfl
 | a :: l => by
  unfold setC
  by_cases e : a = c
  ·
   subst e
   rw [has_put_same (zlz l).isMap (z3n a)]
   exact (decide_eq_true List.mem_cons_self).symm
  ·
   rw [has_put_other (fun h => e (ypf h).symm), zov c l]
   exact decide_eq_decide.2 ⟨List.mem_cons_of_mem _, fun h => (List.mem_cons.1 h).resolve_left (fun h2 => e h2.symm)⟩
def OwnsC (W : World) (b N : Nat) (S : List Ck) : Prop := ∃ (n : Nat) (k : List Ck), n ≤ N ∧ (∀ c, c ∈ k ↔ c ∈ S) ∧ W.ownsMap Tryz.prog 36 (unitElem (H := Unit)) b n (setC k)
theorem OwnsC.keep {W W' : World} {b N : Nat} {S : List Ck} (h : OwnsC W b N S) (g : Below W.heap.size W W') : OwnsC W' b N S := by
 obtain ⟨n, k, h1, h2, h3⟩ := h
 exact ⟨n, k, h1, h2, zci g h3⟩
theorem OwnsC.blk {W W' : World} {b N : Nat} {S : List Ck} (h : OwnsC W b N S) (e : W'.heap[b]? = W.heap[b]?) : OwnsC W' b N S := by
 obtain ⟨n, k, h1, h2, es, clock, hb, h3⟩ := h
 exact ⟨n, k, h1, h2, es, clock, e.trans hb, h3⟩
theorem OwnsC.lt {W : World} {b N : Nat} {S : List Ck} (h : OwnsC W b N S) : b < W.heap.size := by
 obtain ⟨n, k, h1, h2, es, clock, hb, h3⟩ := h
 exact (Array.getElem?_eq_some_iff.1 hb).1
theorem OwnsC.same {W : World} {b N M : Nat} {S T : List Ck} (h : OwnsC W b N S) (hN : N ≤ M) (e : ∀ c, c ∈ S ↔ c ∈ T) : OwnsC W b M T := by
 obtain ⟨n, k, h1, h2, h3⟩ := h
 exact ⟨n, k, Nat.le_trans h1 hN, fun c => (h2 c).trans (e c), h3⟩
theorem z60 (w : World) : OwnsC (w.alloc (.map #[] 0)) w.heap.size 0 [] := ⟨0, [], Nat.le_refl _, fun _ => Iff.rfl, World.ownsMap_made _ _ _ _⟩
theorem zme (w : World) : (zeroValue 135).run Tryz.prog w = .ok (.agg #[]) w := by kernel_rfl
end
section
open Go.Maps
theorem zxo {a w w' : World} {row : Option Nat} (h : Below a.heap.size a w) (k : w.grownBy w' row) : a.grownBy w' row :=
 ⟨k.os.trans h.os, k.tape.trans h.tape, k.output.trans h.output, Nat.le_trans h.size k.size, fun i hi hr => (k.block i (Nat.lt_of_lt_of_le hi h.size) hr).trans (h.block i hi)⟩
theorem zy7 {P : Program} {T k e : TypeId} (hu : P.underlying T = some (.map k e)) (n : Int) (w : World) : (Instr.makeMap T (some (.int .i64 n))).run P w = .ok (.map (some w.heap.size)) (w.alloc (.map #[] 0)) := by
 simp only [Instr.makeMap]
 simp [run_underlying hu, asInt]
 rfl
theorem zom (b N : Nat) (S : List Ck) (c : Ck) (w : World) (h : OwnsC w b N S) :
  Calls Tryz.prog 156 #[.map (some b), .agg (cc c)] w fun e w' => e = .returned (.bool (decide (c ∈ S))) ∧ Below w.heap.size w w' := by
 obtain ⟨n, k, h1, h2, h3⟩ := h
 have hr : decide (c ∈ S) = Maps.has (setC k) (ck c) := by rw [zov]; exact decide_eq_decide.2 (h2 c).symm
 rw [hr]
 obtain ⟨W0, hW0⟩ : ∃ W0, W0 = w.alloc (.cells (cc c) 36) := ⟨_, rfl⟩
 have HB : Hid (Below w.heap.size w W0) := by rw [hW0]; exact below1
 have HO : Hid (W0.ownsMap Tryz.prog 36 (unitElem (H := Unit)) b n (setC k)) := zci HB.out h3
 have z0 : ldA W0 (.pointer (some ⟨w.heap.size, 0, none⟩)) 33 = some (cc c) := by rw [hW0]; exact (ck_v (heap_alloc_last w _)).a
 have HW := Lib.hid hW0
 obtain ⟨D, hD⟩ : ∃ D, D = setC k := ⟨_, rfl⟩
 rw [← hD] at HO ⊢
 clear hW0 h1 h2 h3 hr hD
 go_enter Tryz.func156, Tryz.ntmps156
 go_upto_region 1 with fail
 rw [← HW.out]
 go_wp2_with (at_lookup; refine wpList_lookup_own_unit _ rfl _ _ 188 rfl 36 135 keyed_cc Tryz.underlying188 (zme _) b n D rfl HO.out _ _ rfl (zlg c) ?_)
 go_ret
 exact ⟨rfl, zac HB.out below1⟩
theorem zuy (b N : Nat) (S : List Ck) (c : Ck) (w : World) (h : OwnsC w b N S) (hN : N ≤ 10000) :
  Calls Tryz.prog 157 #[.map (some b), .agg (cc c)] w fun e w' => (∃ v, e = .returned v) ∧ OwnsC w' b (N + 1) (S ++ [c]) ∧ w.grownBy w' (some b) := by
 obtain ⟨n, k, h1, h2, h3⟩ := h
 have HE : Hid (∀ w', w'.ownsMap Tryz.prog 36 (unitElem (H := Unit)) b (n + 1) ((setC k).put (ck c) (.agg [])) → OwnsC w' b (N + 1) (S ++ [c])) := fun w' g => ⟨n + 1, c :: k, by omega, fun d => by rw [List.mem_cons, List.mem_append, List.mem_singleton, h2 d]; exact Or.comm, g⟩
 have HN : Hid (n ≤ 10000) := by show n ≤ 10000; omega
 have HO := Lib.hid h3
 obtain ⟨D, hD⟩ : ∃ D, D = setC k := ⟨_, rfl⟩
 rw [← hD] at HO HE
 clear h1 h2 h3 hD
 go_enter Tryz.func157, Tryz.ntmps157
 go_wp2_with (at_mapUpdate; refine wpList_mapUpdate_own _ rfl _ _ _ 188 rfl 36 135 keyed_cc Tryz.underlying188 (unitElem (H := Unit)) b n _ rfl (HO.out.alloc _) (by unfold maxLen; have := HN.out; omega) _ _ _ rfl rfl (zlg c) _ [] unitElem_mk ?_; intro w1 hown1 hgrow1)
 go_end0
 exact ⟨⟨_, rfl⟩, HE.out _ hown1, zxo below1 hgrow1⟩
theorem zpy (p : Option Addr) (n cp : Nat) (l : List Ck) (w : World) (h : SlE Ecc w (.slice p n cp) l) (hl : l.length = n) (hn : n ≤ 2000) :
  Calls Tryz.prog 155 #[.slice p n cp] w fun e w' => e = .returned (.map (some w.heap.size)) ∧ OwnsC w' w.heap.size n l ∧ Below w.heap.size w w' := by
 have hmm := zy7 (P := Tryz.prog) Tryz.underlying188
 have K := Lib.hid h
 have HL := Lib.hid hl
 have HN := Lib.hid hn
 clear h hl hn
 go_enter Tryz.func155, Tryz.ntmps155
 go_wp2_with fail
 go_loopw [11] (fun i wr => ∃ j : Nat, j ≤ n ∧ i = .int .i64 (j : Int) ∧ OwnsC wr w.heap.size j (l.take j) ∧ Below w.heap.size w wr) (fun i _ => n - (intOf i).toNat)
 case atStart => exact ⟨0, Nat.zero_le _, rfl, z60 _, below1⟩
 case round =>
  obtain ⟨j, hj, rfl, hown, hb⟩ := hrel
  have HO := Lib.hid hown
  have HBB := Lib.hid hb
  clear hown hb
  by_cases hlt : j < n
  ·
   have i0 : (0 : Int) ≤ (j : Int) := by omega
   have i1 : (j : Int) < (n : Int) := by omega
   have d0 : decide ((j : Int) < (n : Int)) = true := decide_eq_true i1
   have d0' : decide (j < n) = true := decide_eq_true hlt
   have u1 : (j : Int) + 1 < 10000 := by have := HN.out; omega
   have HLT := Lib.hid hlt
   obtain ⟨b1, o1, rfl, q1, x1⟩ := zj4 K.out (by have := HL.out; omega)
   have y1 := Go.Proofs.YtkalofboioffiaaGreat.keep HBB.out (zpc x1 (i := j) (by have := HL.out; omega))
   have HS : Hid (l.take (j + 1) = l.take j ++ [ckAt l j]) := by
    show _ = _
    rw [zh8 (by have := HL.out; omega), List.take_add_one, List.getElem?_eq_getElem (by have := HL.out; omega)]
    rfl
   generalize ckAt l j = C at *
   have HPt := Lib.hid (fun W (g : Below wr.heap.size wr W) => zuy w.heap.size j (l.take j) C W (HO.out.keep g) (by have := HN.out; have := HLT.out; omega))
   clear x1 q1 hlt hj
   go_wp2_with fail
   refine (HPt.out _ below1).mono ?_
   rintro e w2 ⟨⟨v, rfl⟩, hown, hg⟩
   rw [← HS.out] at hown
   have HO2 := Lib.hid hown
   have HB2 : Hid (Below w.heap.size w w2) := (zac HBB.out below1).grown hg (by simp; have := HO.out.lt; omega) (fun k hk => by cases hk; exact Nat.le_refl _)
   clear hown hg
   go_wp2_with fail
   go_roundw
   case rel => exact ⟨j + 1, HLT.out, by go_num, HO2.out, HB2.out⟩
   case measure => simp [intOf]; have := HLT.out; omega
  ·
   obtain rfl : j = n := by omega
   have d0 : decide ((j : Int) < (j : Int)) = false := decide_eq_false (Int.lt_irrefl _)
   have d0' : decide (j < j) = false := decide_eq_false (Nat.lt_irrefl _)
   have HF : Hid (OwnsC wr w.heap.size j l) := by
    have := HO.out
    rwa [List.take_of_length_le (by rw [HL.out]; exact Nat.le_refl _)] at this
   clear hlt
   go_wp2_with fail
   go_ret
   exact ⟨rfl, HF.out, HBB.out⟩
theorem yl6 (v : Value) (l : List Ck) (w : World) (h : SlE Ecc w v l) (hn : l.length ≤ 2000) :
  Calls Tryz.prog 155 #[v] w fun e w' => e = .returned (.map (some w.heap.size)) ∧ OwnsC w' w.heap.size l.length l ∧ Below w.heap.size w w' := by
 have k := h
 obtain ⟨p, cp, rfl, _⟩ := zar h
 exact zpy p _ cp l w k rfl hn
end
section
open Go.Shelf
open Go.RowKit Go.Shelf
structure Tn (bs : Nat → Prop) (W W' : World) : Prop where
 os : W'.os = W.os
 tape : W'.tape = W.tape
 output : W'.output = W.output
 size : W.heap.size ≤ W'.heap.size
 block : ∀ k, k < W.heap.size → ¬ bs k → W'.heap[k]? = W.heap[k]?
section
variable {bs : Nat → Prop} {W W' W'' : World}
theorem Tn.refl (bs : Nat → Prop) (W : World) : Tn bs W W := ⟨rfl, rfl, rfl, Nat.le_refl _, fun _ _ _ => rfl⟩
theorem Tn.trans (h : Tn bs W W') (k : Tn bs W' W'') : Tn bs W W'' :=
 ⟨k.os.trans h.os, k.tape.trans h.tape, k.output.trans h.output, Nat.le_trans h.size k.size, fun b hb hn => (k.block b (Nat.lt_of_lt_of_le hb h.size) hn).trans (h.block b hb hn)⟩
theorem Tn.of_below (bs : Nat → Prop) (h : Below W.heap.size W W') : Tn bs W W' := ⟨h.os, h.tape, h.output, h.size, fun k hk _ => h.block k hk⟩
theorem Tn.of_grown {row : Option Nat} (h : W.grownBy W' row) (hr : ∀ k, row = some k → bs k) : Tn bs W W' := ⟨h.os, h.tape, h.output, h.size, fun k hk hn => h.block k hk fun e => hn (hr k e.symm)⟩
theorem Tn.alloc (bs : Nat → Prop) (W : World) (o : Obj) : Tn bs W (W.alloc o) := Tn.of_below bs ((Below.refl _ _).alloc (Nat.le_refl _) o)
theorem Tn.setCell (W : World) {b : Nat} (o : Nat) (v : Value) (hb : bs b) : Tn bs W (W.setCell ⟨b, o, none⟩ v) := by
 have h := (Below.refl b W).setCell (p := ⟨b, o, none⟩) (Nat.le_refl _) v
 exact ⟨h.os, h.tape, h.output, h.size, fun k _ hn => Below.heap_setCell _ _ _ _ (fun e => hn (by rw [e]; exact hb))⟩
theorem Tn.heap (h : Tn bs W W') {k : Nat} {o : Obj} (hk : W.heap[k]? = some o) (hn : ¬ bs k) : W'.heap[k]? = some o := (h.block k (Array.getElem?_eq_some_iff.1 hk).1 hn).trans hk
theorem Tn.below (h : Tn bs W W') {B : Nat} {w : World} (g : Below B w W) (hB : ∀ k, bs k → B ≤ k) (hs : B ≤ W.heap.size) : Below B w W' :=
 ⟨h.os.trans g.os, h.tape.trans g.tape, h.output.trans g.output, Nat.le_trans g.size h.size, fun k hk => (h.block k (by omega) (fun e => by have := hB k e; omega)).trans (g.block k hk)⟩
theorem Tn.own {α : Type} {E : Lie α} {base : Nat} {v : Value} {l : List α} (h : Tn bs W W') (ho : OwnE E W base v l) (hn : ∀ k, v.ownBlock = some k → ¬ bs k) : OwnE E W' base v l :=
 zc7 ho fun b hb hk => h.block b hb (hn b hk)
theorem Tn.map {H : Type} {P : Program} {k : TypeId} {R : Value → Option (DataW H × List MemPlace)} {b n : Nat} {D : DataW H} (h : Tn bs W W') (ho : W.ownsMap P k R b n D) (hn : ¬ bs b) : W'.ownsMap P k R b n D := by
 obtain ⟨es, clock, hb, F, hl, hD⟩ := ho
 exact ⟨es, clock, h.heap hb hn, F, hl, hD⟩
theorem zfx {α : Type} {E : Lie α} {base : Nat} {v : Value} {l : List α} (ho : OwnE E W base v l) {k : Nat} {o : Obj} (hk : v.ownBlock = some k) (hb : W.heap[k]? = some o) : o.isCells = true := by
 rcases ho.2 with ⟨rfl, _⟩ | ⟨g, cap, cur, rfl, _, hg, _⟩
 ·
  cases hk
 ·
  have e : g = k := by injection hk
  subst e
  rw [hg] at hb
  cases hb
  rfl
theorem ztl {α : Type} {B : Nat} {I : α → World → Prop} (h : ∀ s W W' (bs : Nat → Prop), I s W → Tn bs W W' → (∀ k, bs k → B ≤ k ∧ ∃ o, W.heap[k]? = some o ∧ o.isCells = false) → I s W') : OwnFrom B I := by
 intro s W W' row hs hg hr
 refine h s W W' (fun k => row = some k) hs (Tn.of_grown hg fun k e => e) fun k e => ?_
 obtain ⟨h1, h2⟩ := hr k e
 exact ⟨h1, h2⟩
theorem zxs {B : Nat} (h : Tn bs W W') (hb : ∀ k, bs k → k < B ∨ ∀ o, W.heap[k]? = some o → o.isCells = true) : KeepsFrom B W W' :=
 ⟨h.size, fun k o hB hk ho => h.heap hk fun e => by
  rcases hb k e with h1 | h1
  ·
   omega
  ·
   rw [h1 o hk] at ho; cases ho⟩
end
theorem Tn.mono {bs cs : Nat → Prop} {W W' : World} (h : Tn bs W W') (k : ∀ b, bs b → cs b) : Tn cs W W' := ⟨h.os, h.tape, h.output, h.size, fun b hb hn => h.block b hb fun e => hn (k b e)⟩
theorem ztj {W : World} {g : Nat} {c : Array Value} {t : TypeId} (h : W.heap[g]? = some (.cells c t (0, 0))) (o : Nat) : W.frozen? ⟨g, o, none⟩ = false := by
 unfold World.frozen?
 simp [h]
theorem yas {w : World} {g : Nat} {c r : Array Value} {t : TypeId} (hg : w.heap[g]? = some (.cells c t (0, 0))) (h : r.size = c.size) : (stA w (.pointer (some ⟨g, 0, none⟩)) (.agg r)).heap[g]? = some (.cells r t (0, 0)) := by
 rw [zbx hg (by omega)]
 congr 2
 apply Array.toList_inj.1
 unfold za2
 simp only [List.take_zero, List.nil_append, Nat.zero_add]
 rw [List.drop_of_length_le (by rw [Array.length_toList]; omega), List.append_nil]
def mkD (D : Nat) : Deferred := { target := .collected D, args := #[] }
theorem zvb {F : Fence} {n : Nat} {P : Program} {fn : Func} {tmps : Array Value} {R : Ending → World → Prop} : ∀ (ds : List Nat) (W : World), ds.Nodup → (∀ D ∈ ds, W.heap[D]? = some (.deferred (some []))) →
  (∀ W', Tn (· ∈ ds) W W' → ∃ v, (results fn tmps).run P W' = .ok v W' ∧ R (.returned v) W') → LeavesInM F n P fn tmps R (ds.map mkD) .returning W
 | [], W, _, _, h => h W (Tn.refl _ _)
 | D :: ds, W, hd, hK, h => by
  have hKD := hK D List.mem_cons_self
  rw [List.nodup_cons] at hd
  have ht : Tn (· = D) W (W.putObj D (.deferred none)) := Tn.of_grown (grownBy_putObj' W D (.deferred none)) (fun k e => by cases e; rfl)
  refine ⟨by simp, .inl ⟨D, _, rfl, run_takeDeferred hKD, ?_⟩⟩
  refine zvb ds _ hd.2 (fun E hE => ht.heap (hK E (List.mem_cons_of_mem _ hE)) (fun e => hd.1 (by rw [← e]; exact hE))) fun W' hW' => ?_
  refine h W' ?_
  have t1 : Tn (· ∈ D :: ds) W (W.putObj D (.deferred none)) := ⟨ht.os, ht.tape, ht.output, ht.size, fun k hk hn => ht.block k hk (fun e => hn (by rw [e]; exact List.mem_cons_self))⟩
  have t2 : Tn (· ∈ D :: ds) (W.putObj D (.deferred none)) W' := ⟨hW'.os, hW'.tape, hW'.output, hW'.size, fun k hk hn => hW'.block k hk (fun e => hn (List.mem_cons_of_mem _ e))⟩
  exact t1.trans t2
section
variable {P : Program} {ops : Array Oper} {rest : List Oper} {o : Oper} {a : Act} {Q : Exit → Act → World → Prop}
theorem znm {H : Type} (w : World) (hg : o.guard = none) (m x v : Operand) (t : TypeId) (hop : o.op = Op.insert t m x v)
  (k e : TypeId) (K : Go.Maps.Keyed P k) (ht : P.underlying t = some (.map k e)) (R : Value → Option (DataW H × List MemPlace)) (b n : Nat) (D : DataW H)
  (hm : a.eval m = .map (some b)) (hown : w.ownsMap P k R b n D) (hn : n < maxLen) (key val : Value) (kl : Lit) (hx : a.eval x = key) (hv : a.eval v = val) (hkey : keyOf P k key = some kl)
  (d : DataW H) (ps : List MemPlace) (hval : R val = some (d, ps))
  (hK : ∀ w', w'.ownsMap P k R b (n + 1) (D.put kl d) → w.grownBy w' (some b) → wpList P ops Q rest (a.put o.dst undef) w') :
  wpList P ops Q (o :: rest) a w := by
 refine wpList_plain hg fun K' hK' => ?_
 obtain ⟨w', hrun, r1, r2⟩ := hown.update K ht hn hkey hval
 unfold Oper.wp
 simp [execOp, hop, hm, hx, hv, hrun, Result.andThen]
 exact hK' _ _ (hK w' r1 r2)
theorem znk {F : Fence} {nF : Nat} {α : Type} {E : Lie α} {T : TypeId} {bytes : Nat} (K : zjp P E T bytes) (w : World) (hgd : o.guard = none) (s x : Operand)
  (ho : o.op = .call { callee := .builtin .append, args := #[s, x], argTypes := #[T, T] })
  (base : Nat) (v : Value) (k : List α) (hs : a.eval s = v) (hown : OwnE E w base v k) (vx : Value) (l : List α) (hx : a.eval x = vx) (hsl : SlE E w vx l)
  (hlen : k.length + l.length ≤ maxLen) (hb : (k.length + l.length) * bytes ≤ 140737488355328) (hbase : base ≤ w.heap.size)
  (h : ∀ v' w', OwnE E w' base v' (k ++ l) → Gr w v w' v' → wpListIn F nF P ops Q rest (a.put o.dst v') w') : wpListIn F nF P ops Q (o :: rest) a w := by
 refine wpListIn_plain hgd fun K' hK' => ?_
 obtain ⟨v', w', hr, h2, h3⟩ := ziv K w o.type base v k hown vx l hsl hlen hb hbase
 unfold Oper.wpIn
 refine ⟨?_, ?_⟩
 ·
  simp [Oper.about, ho, resolve, Target.leads, Sem.run_pure]
 ·
  rw [Oper.semAt_plain F _ _ (by rw [ho]; intro c hc'; cases hc')]
  simp [execOp, ho, resolve, invoke, builtin, hs, hx, hr, Result.andThen]
  exact hK' _ _ (h v' w' h2 h3)
end
end
end Go.Proofs.YtkalofboioffiaaGreat
