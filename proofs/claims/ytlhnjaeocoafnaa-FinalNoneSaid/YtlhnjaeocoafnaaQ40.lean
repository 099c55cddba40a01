/-
  What is justified, told by the links that count alone; plainly; no word of the program.
  Package final: counting, and what it hands back: the links that count.
-/
import Derived.Test.YtlhnjaeocoafnaaQ12
import Derived.Test.YtlhnjaeocoafnaaQ34
import Derived.Test.YtlhnjaeocoafnaaQ33
import Derived.Test.YtlhnjaeocoafnaaQ30
import Derived.Test.YtlhnjaeocoafnaaQ36
import Derived.Test.YtlhnjaeocoafnaaQ39
import Derived.Test.YtlhnjaeocoafnaaQ26
namespace Go.Proofs.Ytlhnjaeocoafnaa
set_option maxRecDepth 100000

/-- The links that count, in order; none, if it may not be told. -/
def cntL (l : List Nd) (ls : List Lk) (bal : List UInt64) : List Lk := if toldF l ls bal = true then ls.filter (cntB l bal) else []
def freshK (k : List Ck) (y : Lk) : Bool := decide (y.s ∈ k) && !decide (y.t ∈ k)
section
variable {l : List Nd} {ls : List Lk} {bal : List UInt64} {k js : List Ck}
theorem cntL_len (l : List Nd) (ls : List Lk) (bal : List UInt64) : (cntL l ls bal).length ≤ ls.length := by
  unfold cntL
  split
  · exact List.length_filter_le _ _
  · exact Nat.zero_le _
theorem cntL_yes (h : toldF l ls bal = true) : cntL l ls bal = ls.filter (cntB l bal) := by unfold cntL; rw [if_pos h]
theorem cntL_no (h : toldF l ls bal = false) : cntL l ls bal = [] := by unfold cntL; rw [if_neg (by rw [h]; exact Bool.false_ne_true)]
theorem find_first {α : Type} {p : α → Bool} {x : α} {L : List α} : ∀ (ys : List α), ys ++ [x] <+: L → (∀ y ∈ ys, p y = false) → p x = true → L.find? p = some x
  | [], h, _, hx => by
    obtain ⟨t, rfl⟩ := h
    show List.find? p (x :: t) = _
    rw [List.find?_cons, hx]
  | y :: ys, h, ha, hx => by
    obtain ⟨t, rfl⟩ := h
    show List.find? p (y :: (ys ++ [x] ++ t)) = _
    rw [List.find?_cons, ha y List.mem_cons_self]
    exact find_first ys ⟨t, rfl⟩ (fun z hz => ha z (List.mem_cons_of_mem _ hz)) hx
theorem find_filter {α : Type} (p q : α → Bool) : ∀ L : List α, (L.filter p).find? q = L.find? fun a => p a && q a
  | [] => rfl
  | a :: L => by
    rw [List.filter_cons, List.find?_cons]
    cases h : p a
    · rw [if_neg Bool.false_ne_true, Bool.false_and]
      exact find_filter p q L
    · rw [if_pos rfl, List.find?_cons, Bool.true_and, find_filter p q L]
theorem findNew_cnt (cnt : Lk → Bool) (ls : List Lk) (k : List Ck) : findNew cnt ls k = (ls.filter cnt).find? (freshK k) := by
  rw [find_filter]; rfl
/-- A link is found whose target comes. -/
theorem more_new {x : Lk} {ys : List Lk} (h : ys ++ [x] <+: cntL l ls bal) (h1 : ∀ y ∈ ys, freshK k y = false) (h2 : freshK k x = true) : moreL l ls bal (k ++ [x.t]) = moreL l ls bal k ∧ openN ls (k ++ [x.t]) < openN ls k := by
  cases ht : toldF l ls bal
  · rw [cntL_no ht] at h
    obtain ⟨t, e⟩ := h
    simp at e
  · have hf := find_first ys h h1 h2
    rw [cntL_yes ht, ← findNew_cnt] at hf
    rw [moreL_yes ht, moreL_yes ht]
    exact ⟨(more_step hf).symm, open_less hf⟩
/-- None is found: there are no more. -/
theorem more_old (h : ∀ y ∈ cntL l ls bal, freshK k y = false) : moreL l ls bal k = k := by
  cases ht : toldF l ls bal
  · exact moreL_no ht
  · rw [moreL_yes ht]
    rw [cntL_yes ht] at h
    refine more_none ?_ _
    rw [findNew_cnt]
    exact List.find?_eq_none.2 fun y hy => by rw [h y hy]; exact Bool.false_ne_true
/-- The checkpoints that a link of those goes on from, into the next epoch, to one that is there. -/
def goesB (js : List Ck) (y : Lk) : Bool := decide (y.t ∈ js) && decide ((y.t.epoch.toNat : Int) = ((y.s.epoch + 1).toNat : Int))
def srcs (js : List Ck) (L : List Lk) : List Ck := (L.filter (goesB js)).map Lk.s
theorem srcs_snoc (js : List Ck) (L : List Lk) (x : Lk) : srcs js (L ++ [x]) = srcs js L ++ (if goesB js x = true then [x.s] else []) := by
  unfold srcs
  rw [List.filter_append, List.map_append]
  congr 1
  rw [List.filter_cons]
  split <;> rfl
theorem finals_srcs : finalsL l ls bal js = js.filter fun c => decide (c ∈ srcs js (cntL l ls bal)) := by
  cases ht : toldF l ls bal
  · rw [finalsL_no ht, cntL_no ht]
    refine (List.filter_eq_nil_iff.2 fun c _ => ?_).symm
    simp [srcs]
  · rw [finalsL_yes ht, cntL_yes ht]
    unfold finalsT
    refine List.filter_congr fun c _ => ?_
    rw [Bool.eq_iff_iff, decide_eq_true_iff]
    unfold finalB srcs goesB
    rw [List.any_eq_true, List.mem_map]
    have hl := (told_iffF.1 ht).2.1
    have hup : ∀ y ∈ ls, y.s.epoch.toNat < y.t.epoch.toNat := fun y hy => by
      obtain ⟨i, hi, rfl⟩ := List.getElem_of_mem hy
      have := ((mayL_iff.1 hl).1 i hi).1.1
      rwa [lkAt_in hi] at this
    have key : ∀ y ∈ ls, (decide (y.t.epoch.toNat = y.s.epoch.toNat + 1)) = decide ((y.t.epoch.toNat : Int) = ((y.s.epoch + 1).toNat : Int)) := fun y hy => by
      have h1 := hup y hy
      have h2 := y.t.epoch.toNat_lt
      have h3 : (y.s.epoch + 1).toNat = (y.s.epoch.toNat + 1) % 18446744073709551616 := by rw [UInt64.toNat_add]; rfl
      rw [h3, Nat.mod_eq_of_lt (by omega)]
      exact decide_eq_decide.2 (by omega)
    constructor
    · rintro ⟨y, hy, h⟩
      rw [Bool.and_eq_true, Bool.and_eq_true, Bool.and_eq_true] at h
      obtain ⟨h1, h2, h3, h4⟩ := h
      have e := of_decide_eq_true h3
      subst e
      refine ⟨y, List.mem_filter.2 ⟨List.mem_filter.2 ⟨hy, h1⟩, ?_⟩, rfl⟩
      rw [Bool.and_eq_true]
      exact ⟨h2, by rw [← key y hy]; exact h4⟩
    · rintro ⟨y, hy, rfl⟩
      obtain ⟨hy, h2⟩ := List.mem_filter.1 hy
      obtain ⟨hy, h1⟩ := List.mem_filter.1 hy
      rw [Bool.and_eq_true] at h2
      refine ⟨y, hy, ?_⟩
      rw [Bool.and_eq_true, Bool.and_eq_true, Bool.and_eq_true]
      exact ⟨h1, h2.1, decide_eq_true rfl, by rw [key y hy]; exact h2.2⟩
/-- The best of what is later alone: of all of it, with that said. -/
theorem best_later {lt : Rt → Rt → Bool} {ok : Ck → Bool} {b : Nat} : ∀ (L : List Ck) (o : Ck), bestC lt ok (L.filter fun c => !decide (c.epoch.toNat ≤ b)) o = bestC lt (fun c => ok c && decide (b < c.epoch.toNat)) L o
  | [], o => rfl
  | c :: L, o => by
    rw [List.filter_cons]
    by_cases h : c.epoch.toNat ≤ b
    · rw [if_neg (by rw [decide_eq_true h]; decide), best_later L o]
      show _ = bestC lt _ L (if ((ok c && decide (b < c.epoch.toNat)) && betC lt o c) = true then c else o)
      rw [decide_eq_false (show ¬ b < c.epoch.toNat by omega), Bool.and_false, Bool.false_and, if_neg Bool.false_ne_true]
    · rw [if_pos (by rw [decide_eq_false h]; rfl)]
      show bestC lt ok _ (if (ok c && betC lt o c) = true then c else o) = bestC lt _ L (if ((ok c && decide (b < c.epoch.toNat)) && betC lt o c) = true then c else o)
      rw [decide_eq_true (show b < c.epoch.toNat by omega), Bool.and_true]
      exact best_later L _
theorem next_best {fin : Ck} : bestJ l ((finalsL l ls bal js).filter fun c => !decide (c.epoch.toNat ≤ fin.epoch.toNat)) fin = nextC l ls bal js fin := best_later _ _
end
end Go.Proofs.Ytlhnjaeocoafnaa
namespace Go.Proofs.Ytlhnjaeocoafnaa
open Go.RowKit
set_option maxRecDepth 100000

theorem enters_linkMay16 : ∀ args w, (callFunc 23 args).run Try.prog w = .ok (.enter 23 args) w := entersE Try.func23 (by kernel_rfl) (by kernel_rfl)
/-- What counting hands back: a closure over a variable that holds those that count. -/
def CntIs (l : List Nd) (ls : List Lk) (bal : List UInt64) (w : World) (e : Ending) (w' : World) : Prop :=
  ∃ (b m c : Nat) (p : Option Addr), e = .returned (.func (.func 84) #[] #[.pointer (some ⟨b, 0, none⟩)]) ∧ w'.heap[b]? = some (.cells #[.slice p m c] 25 (0, 0)) ∧ (cntL l ls bal).length = m ∧
    OwnE Elk w' w.heap.size (.slice p m c) (cntL l ls bal) ∧ w.heap.size ≤ b ∧ Below w.heap.size w w'
set_option maxRecDepth 100000 in
set_option maxHeartbeats 8000000 in
theorem counting_n (s : SlV) (p : Option Addr) (n cp : Nat) (vb : Value) (l : List Nd) (ls : List Lk) (bal : List UInt64) (w : World) (h : SlE Ene w (sv s) l) (h1 : SlE Elk w (.slice p n cp) ls) (h2 : SlE Enum w vb bal) (hl : ls.length = n) (hn : n ≤ 1000) :
    Calls Try.prog 32 #[.agg (tr ⟨s⟩), .slice p n cp, vb] w (CntIs l ls bal w) := by
  have HBh := Lib.hid (fun c d W (g : Below w.heap.size w W) => isBehind16 s l c d W (slE_keep g h))
  have HMy := Lib.hid (fun W (g : Below w.heap.size w W) => treeMay s l W (slE_keep g h))
  have HLm := Lib.hid (fun W (g : Below w.heap.size w W) => linkMay (.slice p n cp) ls W (slE_keep g h1))
  have HSm := Lib.hid (fun W (g : Below w.heap.size w W) => stakeMay vb bal W (slE_keep g h2))
  have HSt := Lib.hid (fun m W (g : Below w.heap.size w W) => stakeMost vb bal m W (slE_keep g h2))
  have HL := Lib.hid hl
  have HN := Lib.hid hn
  have K := Lib.hid h1
  have HVf : Hid (∀ (q : Option Addr) (m c : Nat) W, Calls Try.prog 64 #[.slice q m c] W fun e w' => e = .returned (.func (.func 84) #[] #[.pointer (some ⟨W.heap.size, 0, none⟩)]) ∧ w' = W.alloc (.cells #[.slice q m c] 25)) := slicesValues
  obtain ⟨vL, hvL⟩ : ∃ vL, vL = cntL l ls bal := ⟨_, rfl⟩
  have HEnd : Hid (∀ (q : Option Addr) (m c : Nat) (W W' : World), OwnE Elk W w.heap.size (.slice q m c) vL → vL.length = m → Below w.heap.size w W → W' = W.alloc (.cells #[.slice q m c] 25) → CntIs l ls bal w (.returned (.func (.func 84) #[] #[.pointer (some ⟨W.heap.size, 0, none⟩)])) W') := fun q m c W W' ho hlm hb e => by
    subst e
    refine ⟨W.heap.size, m, c, q, rfl, heap_alloc_last W _, by rw [← hvL]; exact hlm, by rw [← hvL]; exact ownE_alloc ho _, hb.size, belowT hb below1⟩
  have HvL := Lib.hid hvL
  obtain ⟨ma, hma⟩ : ∃ b, b = decide (MayT l) := ⟨_, rfl⟩
  obtain ⟨mb, hmb⟩ : ∃ b, b = mayL ls := ⟨_, rfl⟩
  obtain ⟨mc, hmc⟩ : ∃ b, b = mayB bal := ⟨_, rfl⟩
  rw [← hma] at HMy
  rw [← hmb] at HLm
  rw [← hmc] at HSm
  have HTo : Hid (toldF l ls bal = (ma && (mb && mc))) := by show _ = _; rw [hma, hmb, hmc]; rfl
  obtain ⟨W0, hW0⟩ : ∃ W0, W0 = w.alloc (.cells (tr ⟨s⟩) 24) := ⟨_, rfl⟩
  have HB : Hid (Below w.heap.size w W0) := by rw [hW0]; exact below1
  have T0 : Hid (W0.heap[w.heap.size]? = some (.cells (tr ⟨s⟩) 24 (0, 0))) := by rw [hW0]; exact heap_alloc_last w _
  have HW := Lib.hid hW0
  have z0 := (tr_cells T0.out).2.1
  obtain ⟨ib, hib, hz0, hz1, hz2⟩ := info_parts info_lk
  clear hW0 h h1 h2 hl hn hma hmb hmc hvL ib hib hz0 hz1 hz2
  go_enter Try.func32, Try.ntmps32
  go_upto_region 1 with fail
  rw [← HW.out]
  go_wp2_with fail
  refine (HMy.out W0 HB.out).mono ?_
  rintro e w1 ⟨rfl, g⟩
  have G1 := Lib.hid (belowT HB.out g)
  replace T0 := Lib.hid (blk_keep g T0.out)
  clear g z0 HB HW HMy
  cases ma
  · have HF : Hid (vL = []) := by show vL = []; rw [HvL.out]; unfold cntL; rw [HTo.out]; rfl
    go_wp2_with fail
    refine (HVf.out _ _ _ _).mono ?_
    rintro e w2 ⟨rfl, g⟩
    have HG := Lib.hid g
    clear g
    go_wp2_with fail
    go_ret
    exact HEnd.out none 0 0 w1 w2 (by rw [HF.out]; exact ownE_nil _ _ _) (by rw [HF.out]; rfl) G1.out HG.out
  · go_wp2_with fail
    refine (HLm.out w1 G1.out).mono ?_
    rintro e w2 ⟨rfl, g⟩
    have G2 := Lib.hid (belowT G1.out g)
    replace T0 := Lib.hid (blk_keep g T0.out)
    clear g HLm
    cases mb
    · have HF : Hid (vL = []) := by show vL = []; rw [HvL.out]; unfold cntL; rw [HTo.out]; rfl
      go_wp2_with fail
      refine (HVf.out _ _ _ _).mono ?_
      rintro e w3 ⟨rfl, g⟩
      have HG := Lib.hid g
      clear g
      go_wp2_with fail
      go_ret
      exact HEnd.out none 0 0 w2 w3 (by rw [HF.out]; exact ownE_nil _ _ _) (by rw [HF.out]; rfl) G2.out HG.out
    · go_wp2_with fail
      refine (HSm.out w2 G2.out).mono ?_
      rintro e w3 ⟨rfl, g⟩
      have G3 := Lib.hid (belowT G2.out g)
      replace T0 := Lib.hid (blk_keep g T0.out)
      clear g HSm G1 G2
      cases mc
      · have HF : Hid (vL = []) := by show vL = []; rw [HvL.out]; unfold cntL; rw [HTo.out]; rfl
        go_wp2_with fail
        refine (HVf.out _ _ _ _).mono ?_
        rintro e w4 ⟨rfl, g⟩
        have HG := Lib.hid g
        clear g
        go_wp2_with fail
        go_ret
        exact HEnd.out none 0 0 w3 w4 (by rw [HF.out]; exact ownE_nil _ _ _) (by rw [HF.out]; rfl) G3.out HG.out
      · have HF : Hid (vL = ls.filter (cntB l bal)) := by show vL = _; rw [HvL.out]; unfold cntL; rw [HTo.out]; rfl
        go_wp2_with fail
        go_loopw [7, 22] (fun v i wr => ∃ (j : Nat), j ≤ n ∧ i = .int .i64 (j : Int) ∧ OwnE Elk wr w.heap.size v ((ls.take j).filter (cntB l bal)) ∧ Below w.heap.size w wr ∧ wr.heap[w.heap.size]? = some (.cells (tr ⟨s⟩) 24 (0, 0)) ∧ (∀ k, v.ownBlock = some k → w.heap.size < k)) (fun _ i _ => n - (intOf i).toNat)
        case atStart => exact ⟨0, Nat.zero_le _, rfl, ownE_nil _ _ _, G3.out, T0.out, fun k e => by cases e⟩
        case round =>
          obtain ⟨j, hj, rfl, ho, hg, ht, hne⟩ := hrel
          have HO := Lib.hid ho
          have HG := Lib.hid hg
          have HT := Lib.hid ht
          have HNe := Lib.hid hne
          clear ho hg ht hne T0 G3
          by_cases hlt : j < n
          · have i0 : (0 : Int) ≤ (j : Int) := by omega
            have i1 : (j : Int) < (n : Int) := by omega
            have d0 : decide ((j : Int) < (n : Int)) = true := decide_eq_true i1
            have d0' : decide (j < n) = true := decide_eq_true hlt
            have u1 : (j : Int) + 1 < 10000 := by have := HN.out; omega
            have HLT := Lib.hid hlt
            obtain ⟨b1, o1, rfl, q1, x1⟩ := lks_ptr K.out (by have := HL.out; omega)
            have y1 := Go.Proofs.Ytlhnjaeocoafnaa.keep HG.out (lks_ld x1 (i := j) (by have := HL.out; omega))
            have HTk : Hid ((ls.take (j + 1)).filter (cntB l bal) = (ls.take j).filter (cntB l bal) ++ (if cntB l bal (lkAt ls j) = true then [lkAt ls j] else [])) := by
              show _ = _
              rw [List.take_add_one, List.getElem?_eq_getElem (by have := HL.out; omega), List.filter_append, lkAt_in (by have := HL.out; omega)]
              congr 1
              show List.filter _ [_] = _
              rw [List.filter_cons]
              rfl
            generalize lkAt ls j = X at *
            obtain ⟨cb, hcb⟩ : ∃ b, b = behindB l X.t X.s := ⟨_, rfl⟩
            obtain ⟨cm, hcm⟩ : ∃ b, b = mostS bal X.mask := ⟨_, rfl⟩
            have HCb := Lib.hid (HBh.out X.t X.s)
            have HCm := Lib.hid (HSt.out X.mask)
            rw [← hcb] at HCb
            rw [← hcm] at HCm
            have HCc : Hid (cntB l bal X = (cb && cm)) := by show _ = _; rw [hcb, hcm]; rfl
            have HKl : Hid (((ls.take j).filter (cntB l bal)).length ≤ 1000) := by
              show _ ≤ _
              have := List.length_filter_le (cntB l bal) (ls.take j)
              rw [List.length_take] at this
              have := HN.out
              omega
            rw [HCc.out] at HTk
            obtain ⟨k, hk⟩ : ∃ k, k = (ls.take j).filter (cntB l bal) := ⟨_, rfl⟩
            rw [← hk] at HO HTk HKl
            clear x1 q1 hlt hj hcb hcm hk
            go_upto_region 6 with fail
            obtain ⟨W5, hW5⟩ : ∃ W5, W5 = wr.alloc (.cells (lk X) 63) := ⟨_, rfl⟩
            rw [← hW5]
            have g5 : Below wr.heap.size wr W5 := by rw [hW5]; exact below1
            have X5 : Hid (W5.heap[wr.heap.size]? = some (.cells (lk X) 63 (0, 0))) := by show _ = _; rw [hW5]; exact heap_alloc_last wr _
            replace HG := Lib.hid (belowT HG.out g5)
            replace HT := Lib.hid (blk_keep g5 HT.out)
            replace HO := Lib.hid (ownE_keep g5 HO.out)
            obtain ⟨Q, hQ⟩ : ∃ Q, Q = wr.heap.size := ⟨_, rfl⟩
            rw [← hQ] at X5 ⊢
            clear hW5 y1 hQ g5
            have z1 := (lk_v X5.out).m
            go_wp2_with fail
            refine (HCm.out _ HG.out).mono ?_
            rintro e w5 ⟨rfl, g⟩
            replace HG := Lib.hid (belowT HG.out g)
            replace HT := Lib.hid (blk_keep g HT.out)
            replace X5 := Lib.hid (blk_keep g X5.out)
            replace HO := Lib.hid (ownE_keep g HO.out)
            clear g z1
            have z0 := (tr_cells HT.out).2.1
            have z1 := (lk_v X5.out).s
            have z2 := (lk_v X5.out).t
            cases cm
            · go_wp2_with fail
              go_roundw
              case rel => exact ⟨j + 1, HLT.out, by go_num, by rw [HTk.out, Bool.and_false, if_neg Bool.false_ne_true, List.append_nil]; exact HO.out, HG.out, HT.out, HNe.out⟩
              case measure => simp [intOf]; have := HLT.out; omega
            · go_wp2_with fail
              refine (HCb.out _ HG.out).mono ?_
              rintro e w6 ⟨rfl, g⟩
              replace HG := Lib.hid (belowT HG.out g)
              replace HT := Lib.hid (blk_keep g HT.out)
              replace X5 := Lib.hid (blk_keep g X5.out)
              replace HO := Lib.hid (ownE_keep g HO.out)
              clear g z0 z1 z2
              cases cb
              · go_wp2_with fail
                go_roundw
                case rel => exact ⟨j + 1, HLT.out, by go_num, by rw [HTk.out, Bool.false_and, if_neg Bool.false_ne_true, List.append_nil]; exact HO.out, HG.out, HT.out, HNe.out⟩
                case measure => simp [intOf]; have := HLT.out; omega
              · have z1 := (lk_v X5.out).a
                go_wp2_with (at_builtin; refine wpList_append_E Klk _ rfl _ _ rfl w.heap.size _ k rfl (ownE_alloc HO.out _) _ [X] rfl (lk_lit1 _ X _ rfl) (by have := HKl.out; simp; omega) (by have := HG.out.size; simp; omega) ?_; intro v' w7 ho7 hg7)
                go_roundw
                case rel =>
                  have h1 : ∀ q, v'.ownBlock = some q → w.heap.size < q := fun q hq => by
                    rcases hg7.2 with e | e
                    · exact HNe.out q (e.symm.trans hq)
                    · have := e q hq; simp at this; have := (Array.getElem?_eq_some_iff.1 HT.out).1; omega
                  have h2 : Below w.heap.size w w7 := (belowT HG.out below1).trans (hg7.own (ownE_alloc HO.out _) (by have := HG.out.size; simp; omega))
                  exact ⟨j + 1, HLT.out, by go_num, by rw [HTk.out, Bool.true_and, if_pos rfl]; exact ho7, h2, hg7.alloc.heap HT.out (fun e => by have := HNe.out _ e; omega), h1⟩
                case measure => simp [intOf]; have := HLT.out; omega
          · obtain rfl : j = n := by omega
            have d0 : decide ((j : Int) < (j : Int)) = false := decide_eq_false (Int.lt_irrefl _)
            have d0' : decide (j < j) = false := decide_eq_false (Nat.lt_irrefl _)
            rw [List.take_of_length_le (by rw [HL.out]; exact Nat.le_refl _), ← HF.out] at HO
            obtain ⟨pv, cv, rfl⟩ := ownE_shape HO.out
            have HLv : Hid (∃ m, vL.length = m) := ⟨_, rfl⟩
            obtain ⟨m, hm⟩ := HLv.out
            rw [hm] at HO
            have HM := Lib.hid hm
            rw [hm]
            clear hlt hm HLv
            go_wp2_with fail
            refine (HVf.out _ _ _ _).mono ?_
            rintro e w4 ⟨rfl, g⟩
            have HGe := Lib.hid g
            clear g
            go_wp2_with fail
            go_ret
            exact HEnd.out pv m cv wr w4 HO.out HM.out HG.out HGe.out
theorem counting16 (s : SlV) (u vb : Value) (l : List Nd) (ls : List Lk) (bal : List UInt64) (w : World) (h : SlE Ene w (sv s) l) (h1 : SlE Elk w u ls) (h2 : SlE Enum w vb bal) (hn : ls.length ≤ 1000) :
    Calls Try.prog 32 #[.agg (tr ⟨s⟩), u, vb] w (CntIs l ls bal w) := by
  have k := h1
  obtain ⟨p, cp, rfl, _⟩ := slE_shape h1
  exact counting_n s p _ cp vb l ls bal w h k h2 rfl hn
theorem enters_counting16 : ∀ args w, (callFunc 32 args).run Try.prog w = .ok (.enter 32 args) w := entersE Try.func32 (by kernel_rfl) (by kernel_rfl)
end Go.Proofs.Ytlhnjaeocoafnaa
