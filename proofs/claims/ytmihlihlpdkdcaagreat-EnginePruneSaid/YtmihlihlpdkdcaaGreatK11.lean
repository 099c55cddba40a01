import Derived.Test.YtmihlihlpdkdcaaGreatQ10
import Derived.Test.YtmihlihlpdkdcaaGreatQ05
import Derived.Test.YtmihlihlpdkdcaaGreatQ06
import Derived.Test.YtmihlihlpdkdcaaGreatQ08
import Derived.Test.YtmihlihlpdkdcaaGreatQ03
import Derived.Test.YtmihlihlpdkdcaaGreatQ04
import Derived.Test.YtmihlihlpdkdcaaGreatQ02
namespace Go.Proofs.YtmihlihlpdkdcaaGreat
open Go.RowKit
set_option maxRecDepth 200000
set_option maxHeartbeats 64000000
theorem ys1 {a b : List UInt64} {k : Nat} (h : k < a.length) : fn (a ++ b) k = fn a k := by
 unfold fn; rw [List.getD_eq_getElem?_getD, List.getElem?_append_left h, ← List.getD_eq_getElem?_getD]
theorem yg3 {a : List UInt64} {x : UInt64} : fn (a ++ [x]) a.length = x.toNat := by
 unfold fn; rw [List.getD_eq_getElem?_getD, List.getElem?_append_right (Nat.le_refl _), Nat.sub_self]; rfl
theorem ydl {p : Nat → Bool} {f : Nat → Nat} {n : Nat} (h : ∀ k, k < n → p k = false) : selF p f n = 0 := by
 unfold selF
 rw [zbo (g := fun _ => 0) n (fun k hk => by rw [h k hk]; rfl)]
 exact zfu _
theorem zuz {p q : Nat → Bool} {f : Nat → Nat} {n : Nat} (h : ∀ k, k < n → p k = q k) : selF p f n = selF q f n := by
 unfold selF
 exact zbo n (fun k hk => by rw [h k hk])
section
variable {e : Eg} {a : Aa} {b : Bk}
theorem zwd (he : ze6 e b = 0) : mayG e = true ∧ b.slot.toNat ≤ e.now.toNat ∧ insE e.t b.root b.parent b.slot = 0 ∧ zcj (insL e.t b.root b.parent b.slot b.just) (zay e.t e.fin.root) e.t.length = true := by
 unfold ze6 at he
 split at he
 ·
  rename_i h1
  split at he
  ·
   omega
  ·
   split at he
   ·
    split at he
    ·
     rename_i h2 h3 h4; exact ⟨h1, by omega, h3, h4⟩
    ·
     omega
   ·
    rename_i h3; exact absurd he h3
 ·
  omega
theorem yi1 (h : MayS' e) {x : Nd} (h' : MayT (e.t ++ [x])) (hx : inT e.t x.root = false) : wtsL (e.t ++ [x]) e.v e.bal = e.w ++ [0] := by
 have hf := h.fit
 have hf' : fitB (e.t ++ [x]) e.v e.bal = true := zfd.2 ⟨h', h.v, h.bal, h.vl⟩
 have hwl : e.w.length = e.t.length := by rw [h.w, zj8 hf]
 have hlen : (e.t ++ [x]).length = e.t.length + 1 := by simp
 have hown : ∀ k, k < e.t.length → ownF (e.t ++ [x]) e.v e.bal k = ownF e.t e.v e.bal k := fun k hk => by
  unfold ownF
  exact zuz fun u _ => by unfold forB; rw [zg6 x hk]
 have hlast : ownF (e.t ++ [x]) e.v e.bal e.t.length = 0 := by
  unfold ownF
  refine ydl fun u hu => ?_
  unfold forB
  rw [zrr]
  cases hh : (lat e.v.l u).has
  ·
   rfl
  ·
   rw [Bool.true_and, decide_eq_false_iff_not]
   intro e2
   have := h.inV u (by rw [h.vl]; exact hu) hh
   rw [e2, hx] at this
   cases this
 refine zu4 (by rw [zj8 hf', hlen, List.length_append, hwl]; rfl) fun i hi => ?_
 rw [List.length_append, hwl] at hi
 have hi' : i < e.t.length + 1 := hi
 rw [z7j hf' (by rw [hlen]; exact hi')]
 have hsum : subT (e.t ++ [x]) (ownF (e.t ++ [x]) e.v e.bal) i = sumF (fun k => if za5 (e.t ++ [x]) i k = true then ownF (e.t ++ [x]) e.v e.bal k else 0) e.t.length := by
  unfold subT
  rw [hlen]
  show sumF _ e.t.length + (if za5 (e.t ++ [x]) i e.t.length = true then ownF (e.t ++ [x]) e.v e.bal e.t.length else 0) = _
  rw [hlast]
  split <;> omega
 rw [hsum]
 rcases Nat.lt_succ_iff_lt_or_eq.1 hi' with h1 | rfl
 ·
  rw [ys1 (by rw [hwl]; exact h1), h.w, z7j hf h1]
  unfold subT
  exact zbo _ fun k hk => by rw [zv2 h.t h' i k hk, hown k hk]
 ·
  rw [← hwl, yg3]
  rw [hwl]
  rw [zbo (g := fun _ => 0) e.t.length (fun k hk => by rw [zuq h' hk]; rfl), zfu]
  rfl
theorem yp5 (h : MayS' e) (b : Bk) : MayS' (blkG e b) := by
 unfold blkG
 by_cases he : ze6 e b = 0
 ·
  rw [if_pos he]
  obtain ⟨_, _, h3, h4⟩ := zwd he
  have h' := zxn b.just h3
  have hL : insL e.t b.root b.parent b.slot b.just = e.t ++ [insN e.t b.root b.parent b.slot b.just] := by unfold insL; rw [if_pos h3]
  obtain ⟨_, g2, _, _⟩ := zsx h3
  have hx : inT e.t (insN e.t b.root b.parent b.slot b.just).root = false := by
   show inT e.t b.root = false
   unfold inT; rw [g2]; rfl
  have ag := z9j h.t h'
  have htold : zgk (e.t ++ [insN e.t b.root b.parent b.slot b.just]) e.k e.bal = true := znk.2 ⟨h', h.k, h.bal⟩
  rw [hL]
  exact {
   t := h', bal := h.bal, v := h.v, late := h.late, k := h.k, vl := h.vl, now := h.now
   w := (yi1 h h' hx).symm
   slots := h.slots, fin := h.fin, nod := h.nod
   inJ := fun c hc => zq4 h.t h' (h.inJ c hc)
   inV := fun i hi hh => zq4 h.t h' (h.inV i hi hh)
   inK := fun x hx => ⟨zq4 h.t h' (h.inK x hx).1, zq4 h.t h' (h.inK x hx).2⟩
   more := ag.more h.told htold (fun x hx => ⟨hx, (h.inK x hx).1, (h.inK x hx).2⟩) (fun c hc => hc) (fun x _ ht => ht) h.more
   next := ag.next h.told htold (fun x hx => ⟨hx, (h.inK x hx).1, (h.inK x hx).2⟩) (fun c hc => ⟨hc, h.inJ c hc⟩) (h.inJ _ h.fin) h.next }
 ·
  rw [if_neg he]; exact h
theorem yk4 (hf : fitG e a = 0) : (0 ≤ a.val ∧ a.val < e.bal.length) ∧ (inT e.t a.head = true ∧ inT e.t a.source.root = true ∧ inT e.t a.target.root = true) ∧ a.source.epoch.toNat < a.target.epoch.toNat ∧ zcj e.t (zay e.t a.source.root) (zay e.t a.target.root) = true ∧ zcj e.t (zay e.t a.target.root) (zay e.t a.head) = true := by
 unfold fitG at hf
 split at hf
 ·
  rename_i h1
  split at hf
  ·
   rename_i h2
   split at hf
   ·
    rename_i h3; exact ⟨h1, h2, h3⟩
   ·
    omega
  ·
   omega
 ·
  omega
theorem ct_G (h : MayS' e) (hf : fitG e a = 0) : MayS' (ctG e a) := by
 unfold ctG
 by_cases he : zlz e a = 0
 ·
  rw [if_pos he]
  obtain ⟨hv, ⟨hh, hs, ht⟩, _, _, _⟩ := yk4 hf
  have hk : mayL (ctK e a) = true := (yqq he).2.1
  obtain ⟨v1, v2, v3⟩ := yrz (ep := a.target.epoch) h.v (by rw [h.vl]; exact hv) hh h.inV
  have hinK : ∀ x, x ∈ ctK e a → inT e.t x.s.root = true ∧ inT e.t x.t.root = true := fun x hx => by
   rcases ymi hx with ⟨y, hy, e1, e2⟩ | ⟨e1, e2⟩
   ·
    rw [e1, e2]; exact h.inK y hy
   ·
    rw [e1, e2]; exact ⟨hs, ht⟩
  have hinJ : ∀ c, c ∈ ctJ e a → inT e.t c.root = true := fun c hc => by
   rcases z8k hc with h1 | ⟨k, hk, rfl⟩
   ·
    exact h.inJ c h1
   ·
    exact (hinK k hk).2
  exact {
   t := h.t, bal := h.bal, v := v1, late := h.late, k := hk, vl := v2.trans h.vl, now := h.now, w := rfl, slots := h.slots
   fin := yis (yh3 h.fin)
   nod := z5a h.nod
   inJ := hinJ, inV := v3, inK := hinK
   more := yaf
   next := yg1 }
 ·
  rw [if_neg he]; exact h
theorem yvz (h : MayS' e) (a : Aa) : MayS' (oneG e a) := by
 unfold oneG
 split
 ·
  rename_i hf; exact ct_G h hf
 ·
  exact h
theorem yxr (h : MayS' e) (a : Aa) (ha : e.now.toNat ≤ a.slot.toNat) : MayS' { e with late := putA e.late a } := by
 have hp : mayA (putA e.late a) = true ∧ ∀ x, x ∈ putA e.late a → e.now.toNat ≤ x.slot.toNat := by
  unfold putA
  split
  ·
   rename_i ho
   unfold zng at ho
   rw [Bool.and_eq_true, decide_eq_true_iff] at ho
   split
   ·
    exact ⟨h.late, h.slots⟩
   ·
    rename_i h6
    have hl := (zdy.1 h.late).1
    refine ⟨(z77 h.late ho.2 (by omega)).2.2, fun x hx => ?_⟩
    rcases List.mem_append.1 hx with h1 | h1
    ·
     exact h.slots x h1
    ·
     rw [List.mem_singleton] at h1; subst h1; exact ha
  ·
   exact ⟨h.late, h.slots⟩
 exact { h with late := hp.1, slots := hp.2 }
theorem yki (h : MayS' e) (a : Aa) : MayS' (attG e a) := by
 unfold attG
 split
 ·
  rename_i h1
  split
  ·
   exact ct_G h h1.2
  ·
   exact yxr h a (by omega)
 ·
  exact h
theorem yeh (h : e.now.toNat ≤ 1099511627776) : (e.now + 1).toNat = e.now.toNat + 1 := by
 rw [UInt64.toNat_add]
 show (e.now.toNat + 1) % _ = _
 omega
theorem up_G (h : MayS' e) (hn : e.now.toNat ≠ 1099511627776) : MayS' (upG e) := by
 have hu := yeh h.now
 have := h.now
 exact { h with
  now := by show (e.now + 1).toNat ≤ _; omega
  late := ylm h.late ygx (fun x hx => (z7m hx).1)
  slots := fun a ha => by
   have := (z7m ha).2
   show (e.now + 1).toNat ≤ _
   omega }
theorem yok (xs : List Aa) : ∀ {e : Eg}, MayS' e → MayS' (xs.foldl oneG e) := by
 induction xs with
 | nil => intro e h; exact h
 | cons a xs ih => intro e h; exact ih (yvz h a)
theorem zkr (he : zee e = 0) : mayG e = true ∧ e.now.toNat ≠ 1099511627776 := by
 unfold zee at he
 split at he
 ·
  rename_i h1
  split at he
  ·
   omega
  ·
   rename_i h2; exact ⟨h1, h2⟩
 ·
  omega
theorem yn8 (h : MayS' e) : MayS' (zd2 e) := by
 unfold zd2
 split
 ·
  rename_i he; exact yok _ (up_G h (zkr he).2)
 ·
  exact h
theorem z0h {l : List Nd} (h : MayT l) {r : Rt} : r ∈ l.map Nd.root ↔ inT l r = true := by
 rw [z45 h, List.mem_map]
 constructor
 ·
  rintro ⟨x, hx, rfl⟩
  obtain ⟨i, hi, rfl⟩ := List.mem_iff_getElem.1 hx
  exact ⟨i, hi, by rw [ztc l hi]⟩
 ·
  rintro ⟨i, hi, rfl⟩
  exact ⟨l[i], List.getElem_mem hi, by rw [ztc l hi]⟩
theorem z7f (h : MayS' e) : ∃ i : Nat, i < e.t.length ∧ zay e.t e.fin.root = i ∧ (nd e.t i).root = e.fin.root ∧ prT e = cutL e.t i := by
 obtain ⟨i, hi, e1, e2⟩ := ztl h.t (h.inJ _ h.fin)
 exact ⟨i, hi, e1, e2, by unfold prT; rw [e1, z7d h.t hi]⟩
theorem z2f {t : List Nd} {fin : Ck} {x : Lk} : zps t fin x = true ↔ (inT t x.s.root = true ∧ inT t x.t.root = true) ∧ fin.epoch.toNat < x.t.epoch.toNat := by
 unfold zps; rw [Bool.and_eq_true, Bool.and_eq_true, decide_eq_true_iff]
theorem zh8 {t : List Nd} {fin c : Ck} : zqn t fin c = true ↔ inT t c.root = true ∧ fin.epoch.toNat ≤ c.epoch.toNat := by
 unfold zqn; rw [Bool.and_eq_true, decide_eq_true_iff]
theorem z12 {keep : List Rt} {x : Lt} : zsn keep x = true ↔ x.root ∈ keep := by unfold zsn; rw [decide_eq_true_iff]
theorem yez (h : MayS' e) {i : Nat} (hi : i < e.v.l.length) (ht : MayT (prT e)) : lat (prV e).l i = if inT (prT e) (lat e.v.l i).root = true then lat e.v.l i else zlt := by
 unfold prV
 rw [zq3 h.v hi]
 by_cases hs : inT (prT e) (lat e.v.l i).root = true
 ·
  rw [if_pos hs, if_pos (z12.2 ((z0h ht).2 hs))]
 ·
  rw [if_neg hs, if_neg (fun e2 => hs ((z0h ht).1 (z12.1 e2)))]
theorem pr_G (h : MayS' e) : MayS' (prG e) := by
 unfold prG
 split
 ·
  obtain ⟨i, hi, e1, e2, e3⟩ := z7f h
  have ht : MayT (prT e) := by rw [e3]; exact ziw h.t hi
  have ag : AgreeT e.t (prT e) (fun r => inT (prT e) r = true) := by rw [e3]; exact z1g h.t hi
  have hfin : inT (prT e) e.fin.root = true := by rw [e3, zpn h.t hi]; exact ⟨i, zg0 h.t hi, e2⟩
  have hk := z4o (zps (prT e) e.fin) h.k
  have htold : zgk (prT e) (e.k.filter (zps (prT e) e.fin)) e.bal = true := znk.2 ⟨ht, hk, h.bal⟩
  have hin : ∀ x, x ∈ e.k.filter (zps (prT e) e.fin) → x ∈ e.k ∧ inT (prT e) x.s.root = true ∧ inT (prT e) x.t.root = true := fun x hx => by
   obtain ⟨h1, h2⟩ := List.mem_filter.1 hx
   obtain ⟨h3, _⟩ := z2f.1 h2
   exact ⟨h1, h3⟩
  exact {
   t := ht, bal := h.bal, v := z5t h.v, late := h.late, k := hk, vl := drop_len.trans h.vl, now := h.now, w := rfl, slots := h.slots
   fin := List.mem_filter.2 ⟨h.fin, zh8.2 ⟨hfin, Nat.le_refl _⟩⟩
   nod := h.nod.filter _
   inJ := fun c hc => (zh8.1 (List.mem_filter.1 hc).2).1
   inV := fun u hu hh => by
    have hu' : u < e.v.l.length := by have h1 : u < (prV e).l.length := hu; rwa [show (prV e).l.length = e.v.l.length from drop_len] at h1
    have hl := yez h hu' ht
    show inT (prT e) (lat (prV e).l u).root = true
    have hh' : (lat (prV e).l u).has = true := hh
    rw [hl] at hh' ⊢
    by_cases hs : inT (prT e) (lat e.v.l u).root = true
    ·
     rw [if_pos hs]; exact hs
    ·
     rw [if_neg hs] at hh'; cases hh'
   inK := fun x hx => (hin x hx).2
   more := ag.more h.told htold hin (fun c hc => (List.mem_filter.1 hc).1) (fun x hx hj => by
    obtain ⟨_, h2⟩ := List.mem_filter.1 hx
    obtain ⟨h3, h4⟩ := z2f.1 h2
    exact List.mem_filter.2 ⟨hj, zh8.2 ⟨h3.2, by omega⟩⟩) h.more
   next := ag.next h.told htold hin (fun c hc => ⟨(List.mem_filter.1 hc).1, (zh8.1 (List.mem_filter.1 hc).2).1⟩) hfin h.next }
 ·
  exact h
theorem do_G (h : MayS' e) (c : Cmd) : MayS' (doG e c) := by
 cases c with
 | block b => exact yp5 h b
 | att a => exact yki h a
 | tick => exact yn8 h
 | prune => exact pr_G h
 | form => exact h
 | other => exact h
end
section
variable {e : Eg} {a : Aa} {b : Bk}
theorem zms {l : List Nd} (h : MayT l) : ∀ m, m ≤ l.length → zcn l 0 m = m
 | 0, _ => rfl
 | m + 1, hm => by
  have ih := zms h m (by omega)
  unfold zcn at ih ⊢
  rw [zzy, ih, if_pos (zbg.2 ⟨by omega, zr4 h m (by omega)⟩)]
theorem yjk {l : List Nd} (h : MayT l) : cutL l 0 = l := by
 have hk : yax l 0 = List.range l.length := by
  unfold yax
  rw [List.filter_eq_self]
  intro k hk
  have hk' := List.mem_range.1 hk
  exact zbg.2 ⟨hk', zr4 h k hk'⟩
 unfold cutL
 rw [hk]
 refine List.ext_getElem (by simp) fun k h1 h2 => ?_
 rw [List.getElem_map, List.getElem_range]
 unfold cutN
 rw [← ztc l h2]
 refine Nd.ext rfl ?_ rfl rfl
 show (if k = 0 then -1 else (zcn l 0 (up l k) : Int)) = (nd l k).parent
 by_cases h0 : k = 0
 ·
  subst h0; rw [if_pos rfl]; exact h.first.symm
 ·
  rw [if_neg h0]
  obtain ⟨p1, p2, _⟩ := h.par (Nat.pos_of_ne_zero h0) h2
  rw [zms h _ (by omega)]
  exact p1.symm
theorem z6p (p : Nat → Bool) (g : Nat → Nat) : ∀ n, sumF g (zhx p n) = sumF (fun k => if p k = true then g (zhx p k) else 0) n
 | 0 => rfl
 | n + 1 => by
  rw [zzy]
  show _ = sumF (fun k => if p k = true then g (zhx p k) else 0) n + (if p n = true then g (zhx p n) else 0)
  rw [← z6p p g n]
  by_cases h : p n = true
  ·
   rw [if_pos h, if_pos h]; rfl
  ·
   rw [if_neg h, if_neg h]; rfl
theorem yr0 {l : List Nd} (h : MayT l) {i a : Nat} (hi : i < l.length) (ha : zcs l i a = true) {f f' : Nat → Nat} (hf : ∀ k, zcs l i k = true → f' (zcn l i k) = f k) : subT (cutL l i) f' (zcn l i a) = subT l f a := by
 unfold subT
 rw [show (cutL l i).length = zhx (zcs l i) l.length from zxl, z6p]
 refine zbo _ fun k hk => ?_
 by_cases hkk : zcs l i k = true
 ·
  rw [if_pos hkk, ← hf k hkk]
  show (if za5 (cutL l i) (zcn l i a) (zcn l i k) = true then f' (zcn l i k) else 0) = _
  rw [zru h hi ha k hkk]
 ·
  rw [if_neg hkk]
  by_cases hak : za5 l a k = true
  ·
   exact absurd (zbg.2 ⟨hk, zt1 h (zbg.1 ha).2 k hk hak⟩) hkk
  ·
   rw [if_neg hak]
theorem zmh (lt : Rt → Rt → Bool) {ok ok' p : Ck → Bool} : ∀ (cs : List Ck) (o : Ck), (∀ c, c ∈ cs → p c = true → ok' c = ok c) → (∀ c, c ∈ cs → p c = false → ok c = false ∨ c.epoch.toNat < o.epoch.toNat) → zf6 lt ok' (cs.filter p) o = zf6 lt ok cs o
 | [], _, _, _ => rfl
 | c :: cs, o, h1, h2 => by
  have h1' : ∀ x, x ∈ cs → p x = true → ok' x = ok x := fun x hx => h1 x (List.mem_cons_of_mem _ hx)
  cases hp : p c
  ·
   rw [List.filter_cons_of_neg (by rw [hp]; exact Bool.false_ne_true)]
   have hno : (ok c && betC lt o c) = false := by
    rcases h2 c List.mem_cons_self hp with e | e
    ·
     rw [e]; rfl
    ·
     have : betC lt o c = false := by
      unfold betC
      rw [decide_eq_false (by omega), decide_eq_false (fun e2 => by rw [e2] at e; omega)]
      rfl
     rw [this, Bool.and_false]
   rw [zmh lt cs o h1' (fun x hx => h2 x (List.mem_cons_of_mem _ hx))]
   show _ = zf6 lt ok cs (if (ok c && betC lt o c) = true then c else o)
   rw [hno]; rfl
  ·
   rw [List.filter_cons_of_pos hp]
   show zf6 lt ok' (cs.filter p) (if (ok' c && betC lt o c) = true then c else o) = zf6 lt ok cs (if (ok c && betC lt o c) = true then c else o)
   rw [h1 c List.mem_cons_self hp]
   refine zmh lt cs _ h1' fun x hx hpx => ?_
   rcases h2 x (List.mem_cons_of_mem _ hx) hpx with e | e
   ·
    exact .inl e
   ·
    refine .inr ?_
    by_cases hb : (ok c && betC lt o c) = true
    ·
     rw [if_pos hb]
     rw [Bool.and_eq_true] at hb
     have := hb.2
     unfold betC at this
     rw [Bool.or_eq_true, Bool.and_eq_true, decide_eq_true_iff, decide_eq_true_iff] at this
     rcases this with q | q
     ·
      omega
     ·
      rw [q.1]; exact e
    ·
     rw [if_neg hb]; exact e
theorem z9z (h : MayS' e) : zjg e = 0 ∧ prG e = { e with t := prT e, v := prV e, w := wtsL (prT e) (prV e) e.bal, k := e.k.filter (zps (prT e) e.fin), j := e.j.filter (zqn (prT e) e.fin) } := by
 have h0 : zjg e = 0 := by unfold zjg; rw [zdu.2 h, if_pos rfl]
 exact ⟨h0, by unfold prG; rw [if_pos h0]⟩
theorem zpv {α : Type} (p : α → Bool) (l : List α) : (l.filter p).filter p = l.filter p := by
 rw [List.filter_filter]; congr 1; funext x; cases p x <;> rfl
theorem ynp (h : MayS' e) : prG (prG e) = prG e := by
 obtain ⟨i, hi, e1, e2, e3⟩ := z7f h
 have hg := pr_G h
 have hfin : zay (prT e) e.fin.root = 0 := by
  rw [e3, ← e2, zmi h.t hi (zg0 h.t hi), zdl h.t i]; rfl
 have ht : MayT (prT e) := by rw [e3]; exact ziw h.t hi
 obtain ⟨q1, q2⟩ := z9z hg
 rw [q2]
 obtain ⟨_, r2⟩ := z9z h
 rw [r2]
 have hT : prT { e with t := prT e, v := prV e, w := wtsL (prT e) (prV e) e.bal, k := e.k.filter (zps (prT e) e.fin), j := e.j.filter (zqn (prT e) e.fin) } = prT e := by
  show cutZ (prT e) (zay (prT e) e.fin.root) = prT e
  rw [hfin, show (0 : Int) = ((0 : Nat) : Int) from rfl, z7d ht ht.pos, yjk ht]
 have hV : prV { e with t := prT e, v := prV e, w := wtsL (prT e) (prV e) e.bal, k := e.k.filter (zps (prT e) e.fin), j := e.j.filter (zqn (prT e) e.fin) } = prV e := by
  show zjz (prV e) ((prT _).map Nd.root) = prV e
  rw [hT]
  exact drop_drop h.v
 refine Eg.ext hT rfl hV ?_ rfl ?_ ?_ rfl rfl
 ·
  show wtsL (prT _) (prV _) e.bal = wtsL (prT e) (prV e) e.bal
  rw [hT, hV]
 ·
  show (e.k.filter _).filter (zps (prT _) e.fin) = _
  rw [hT]; exact zpv _ _
 ·
  show (e.j.filter _).filter (zqn (prT _) e.fin) = _
  rw [hT]; exact zpv _ _
theorem yrl (h : MayS' e) : zzx (prG e).t (prG e).j (prG e).fin = zzx e.t e.j e.fin := by
 obtain ⟨i, hi, e1, e2, e3⟩ := z7f h
 obtain ⟨_, r2⟩ := z9z h
 have ag : AgreeT e.t (prT e) (fun r => inT (prT e) r = true) := by rw [e3]; exact z1g h.t hi
 have hfin : inT (prT e) e.fin.root = true := by rw [e3, zpn h.t hi]; exact ⟨i, zg0 h.t hi, e2⟩
 rw [r2]
 show zf6 zi0 (fun c => za7 (prT e) c e.fin) (e.j.filter (zqn (prT e) e.fin)) e.fin = zf6 zi0 (fun c => za7 e.t c e.fin) e.j e.fin
 refine zmh zi0 e.j e.fin (fun c hc hp => (ag c e.fin (zh8.1 hp).1 hfin).symm) fun c hc hp => ?_
 by_cases hep : c.epoch.toNat < e.fin.epoch.toNat
 ·
  exact .inr hep
 ·
  refine .inl ?_
  rw [← Bool.not_eq_true]
  intro hb
  obtain ⟨x, y, _, f1, f2, hx, hy, hab⟩ := zc9 hb
  rw [e1] at f1
  obtain rfl : i = x := by omega
  obtain ⟨k, hk, g1, g2⟩ := ztl h.t (h.inJ c hc)
  rw [f2] at g1
  obtain rfl : y = k := by omega
  have : inT (prT e) c.root = true := by rw [e3, zpn h.t hi]; exact ⟨y, zbg.2 ⟨hy, hab⟩, g2⟩
  rw [zh8.2 ⟨this, by omega⟩] at hp
  cases hp
theorem z05 (h : MayS' e) {a b s : Nat} (ha : a < e.t.length) (hb : b < e.t.length) :
  ∃ i : Nat, i < e.t.length ∧ zay e.t e.fin.root = i ∧
  ((zay (prG e).t (nd e.t a).root = -1 ∧ za5 e.t i a = false) ∨ ∃ x : Nat, zay (prG e).t (nd e.t a).root = x ∧ x < (prG e).t.length ∧ za5 e.t i a = true ∧ fn (prG e).w x = fn e.w a ∧
   (zay (prG e).t (nd e.t b).root = -1 ∨ ∃ y : Nat, zay (prG e).t (nd e.t b).root = y ∧ y < (prG e).t.length ∧ za5 (prG e).t x y = za5 e.t a b) ∧
   ((s < sl e.t i ∧ atT (prG e).t x s = -1) ∨ (sl e.t i ≤ s ∧ ∃ p q : Nat, atT (prG e).t x s = p ∧ atT e.t a s = q ∧ p < (prG e).t.length ∧ q < e.t.length ∧ (nd (prG e).t p).root = (nd e.t q).root))) := by
 obtain ⟨i, hi, e1, e2, e3⟩ := z7f h
 obtain ⟨_, r2⟩ := z9z h
 refine ⟨i, hi, e1, ?_⟩
 have ht : (prG e).t = cutL e.t i := by rw [r2]; exact e3
 obtain ⟨_, _, hc⟩ := yq1 h.t (s := s) hi ha hb
 rw [ht]
 rcases hc with hc | ⟨x, h1, h2, h3, h4, h5⟩
 ·
  exact .inl hc
 ·
  refine .inr ⟨x, h1, h2, h3, ?_, h4, h5⟩
  have hka : zcs e.t i a = true := zbg.2 ⟨ha, h3⟩
  have hx : x = zcn e.t i a := by rw [zmi h.t hi hka] at h1; omega
  have hg := pr_G h
  have hfit' : fitB (prT e) (prV e) e.bal = true := by
   have := hg.fit
   rw [r2] at this
   exact this
  rw [r2]
  show fn (wtsL (prT e) (prV e) e.bal) x = fn e.w a
  rw [h.w, z7j h.fit ha, z7j hfit' (by rw [e3]; exact h2)]
  have hmT : MayT (prT e) := by rw [e3]; exact ziw h.t hi
  rw [hx]
  have hown : ∀ k, zcs e.t i k = true → ownF (prT e) (prV e) e.bal (zcn e.t i k) = ownF e.t e.v e.bal k := fun k hk => by
   unfold ownF
   refine zuz fun u hu => ?_
   rw [← h.vl] at hu
   unfold forB
   rw [yez h hu hmT, show nd (prT e) (zcn e.t i k) = nd (cutL e.t i) (zcn e.t i k) by rw [e3], zge hk]
   by_cases hs : inT (prT e) (lat e.v.l u).root = true
   ·
    rw [if_pos hs]
   ·
    rw [if_neg hs]
    by_cases hr : (lat e.v.l u).root = (nd e.t k).root
    ·
     exact absurd (by rw [hr, e3, zpn h.t hi]; exact ⟨k, hk, rfl⟩) hs
    ·
     rw [decide_eq_false hr, Bool.and_false]; rfl
  have := yr0 h.t hi hka (f' := ownF (prT e) (prV e) e.bal) (f := ownF e.t e.v e.bal) hown
  rw [← this, e3]
end
theorem zca {w : World} {b off : Nat} {a : List UInt64} (h : w.rangeAt b off (zan Enum a)) {i : Nat} (hi : i < a.length) : w.cell? ⟨b, off + i, none⟩ = some (.int .u64 (fn a i : Int)) := by
 have := z4v h hi (j := 0) (v := num a[i]) rfl
 rw [ypc hi]
 simpa [Enum, num] using this
theorem yie {v : Nat} (h : v < 18446744073709551616) : num (UInt64.ofNat v) = .int .u64 (v : Int) := by
 unfold num
 rw [UInt64.toNat_ofNat', Nat.mod_eq_of_lt h]
theorem zcz {w : World} {p : Option Addr} {n cp : Nat} {a : List UInt64} (h : SlE Enum w (.slice p n cp) a) (h0 : 0 < a.length) : ∃ b o, p = some ⟨b, o, none⟩ ∧ b < w.heap.size ∧ w.rangeAt b o (zan Enum a) := by
 obtain ⟨b, o, c, e, _, q, x⟩ := zc8 h h0
 injection e with e1 e2 e3
 exact ⟨b, o, e1, q, x⟩
theorem zmk (w : World) {v : Nat} (h : v < 18446744073709551616) (b : Nat) (hb : b = w.heap.size) : SlE Enum (w.alloc (.cells #[.int .u64 (v : Int)] 30)) (.slice (some ⟨b, 0, none⟩) 1 1) [UInt64.ofNat v] :=
 ze9 w [UInt64.ofNat v] 1 _ _ b rfl hb (by simp [zan, Enum, yie h])
def NumsOk (a : List UInt64) (ok : Bool) (w : World) (e : Ending) (w' : World) : Prop := ∃ v : Value, e = .returned (.tuple #[v, .bool ok]) ∧ OwnE Enum w' w.heap.size v a ∧ Below w.heap.size w w'
section
open Go.RowKit
section
open Go.WideShapes Go.ChangeShapes
variable {H : Type} {enc : TypeId × Value → H} {w : World} {base : Nat} {sp : Nat → Bool} {held : Bool}
end
end
def z1s (a : List UInt64) (ok : Bool) (w : World) (e : Ending) (w' : World) : Prop := ∃ v : Value, e = .returned (.tuple #[v, .bool ok]) ∧ SlE Enum w' v a ∧ Below w.heap.size w w'
theorem NumsOk.is {a : List UInt64} {ok : Bool} {w w' : World} {e : Ending} (h : NumsOk a ok w e w') : z1s a ok w e w' := by
 obtain ⟨v, h1, h2, h3⟩ := h
 exact ⟨v, h1, zak h2, h3⟩
theorem zdm {w : World} {s : SlV} {l : List Nd} (h : SlE Ene w (sv s) l) : l.length = s.len := by
 obtain ⟨p', cap', e, _⟩ := zaj h
 unfold sv at e; injection e with _ e; exact e.symm
theorem zwp {w : World} {b off : Nat} {l : List Nd} (h : w.rangeAt b off (zan Ene l)) {i : Nat} (hi : i < l.length) : ldA w (.pointer (some ⟨b, off + i * 35, none⟩)) 35 = some (ne (nd l i)) := by
 have := ztn h hi
 rw [ztc l hi]
 exact this.trans (by rw [show (Ene.enc l[i]).toArray = ne l[i] from Array.toList_inj.1 (by rw [zpt]; rfl)])
theorem zqu {w : World} {b off : Nat} {l : List Nd} (h : w.rangeAt b off (zan Ene l)) {i : Nat} (hi : i < l.length) : ldA w (.pointer (some ⟨b, off + i * 35, none⟩)) 32 = some (rc (nd l i).root) := by
 have := zv8 (zku h hi)
 rw [ztc l hi]
 exact this
theorem z2u {w : World} {b off : Nat} {l : List Nd} (h : w.rangeAt b off (zan Ene l)) {i : Nat} (hi : i < l.length) : w.cell? ⟨b, off + i * 35 + 32, none⟩ = some (.int .i64 (nd l i).parent) := by
 have := zqc (zku h hi)
 rw [ztc l hi]
 exact this
theorem zk3 {w : World} {b off : Nat} {l : List Nd} (h : w.rangeAt b off (zan Ene l)) {i : Nat} (hi : i < l.length) : w.cell? ⟨b, off + i * 35 + 33, none⟩ = some (.int .u64 ((nd l i).slot.toNat : Int)) := by
 have := zvz (zku h hi)
 rw [ztc l hi]
 exact this
theorem yje {w : World} {g : Nat} {x : Nd} (h : w.heap[g]? = some (.cells (ne x) 57 (0, 0))) : ldA w (.pointer (some ⟨g, 0, none⟩)) 32 = some (rc x.root) ∧ w.cell? ⟨g, 32, none⟩ = some (.int .i64 x.parent) ∧ w.cell? ⟨g, 33, none⟩ = some (.int .u64 (x.slot.toNat : Int)) ∧ w.cell? ⟨g, 34, none⟩ = some (.int .u64 (x.just.toNat : Int)) ∧ ldA w (.pointer (some ⟨g, 0, none⟩)) 35 = some (ne x) ∧ g < w.heap.size :=
 ⟨zly h, zza h, z24 h, z40 h, zaf h (zow x), (Array.getElem?_eq_some_iff.1 h).1⟩
theorem za2 {w : World} {g : Nat} {x : Tr} (h : w.heap[g]? = some (.cells (tr x) 28 (0, 0))) : w.cell? ⟨g, 0, none⟩ = some (sv x.n) ∧ ldA w (.pointer (some ⟨g, 0, none⟩)) 1 = some (tr x) ∧ g < w.heap.size :=
 ⟨yiv h, zaf h (zbf x), (Array.getElem?_eq_some_iff.1 h).1⟩
theorem yv7 {l k : List Nd} (hl : l.length = k.length) (h : ∀ i, i < k.length → nd l i = nd k i) : l = k := by
 refine List.ext_getElem hl fun i h1 h2 => ?_
 have := h i h2
 rwa [ztc l h1, ztc k h2] at this
theorem zf4 {w : World} {p : Option Addr} {n cp : Nat} {l : List Nd} (h : SlE Ene w (.slice p n cp) l) (h0 : 0 < l.length) : ∃ b o, p = some ⟨b, o, none⟩ ∧ b < w.heap.size ∧ w.rangeAt b o (zan Ene l) := by
 obtain ⟨b, o, c, e, _, q, x⟩ := zc8 h h0
 injection e with e1 e2 e3
 exact ⟨b, o, e1, q, x⟩
theorem yvb {w : World} {g : Nat} {x : Tr} (h : w.heap[g]? = some (.cells (tr x) 28 (0, 0))) (p : Wd w.drew) : ldA p.w (.pointer (some ⟨g, 0, none⟩)) 1 = some (tr x) := yo2 (show ldA w.drew _ 1 = _ by rw [zyr]; exact zaf h (zbf _)) (by decide) p
open Go.RowKit
section
variable {α : Type} {E : Lie α}
theorem zo3 (l : List α) {i : Nat} (hi : i < l.length) : zan E l = zan E (l.take i) ++ (E.enc l[i] ++ zan E (l.drop (i + 1))) := by
 conv => lhs; rw [← List.take_append_drop i l]
 rw [zdz, List.drop_eq_getElem_cons hi, zec]
theorem zvp (l : List α) {i : Nat} (hi : i < l.length) (x : α) : zan E (l.set i x) = zan E (l.take i) ++ (E.enc x ++ zan E (l.drop (i + 1))) := by
 rw [zo3 (l.set i x) (i := i) (by rw [List.length_set]; exact hi), List.take_set_of_le (Nat.le_refl _), List.getElem_set_self, List.drop_set_of_lt (by omega)]
theorem zsa {w : World} {base g n cap : Nat} {l : List α} (h : OwnE E w base (.slice (some ⟨g, 0, none⟩) n cap) l) (hl : l.length = n) {i : Nat} (hi : i < n) : wrA w (.pointer (some ⟨g, 0 + i * E.n, none⟩)) E.n = true := by
 subst hl
 obtain ⟨b, off, c, e, _, _, x⟩ := zc8 (zak h) (by omega)
 injection e with e _ _
 injection e with e
 injection e with e1 e2
 subst e1 e2
 refine zds.2 fun j hj => ⟨?_, ?_⟩
 ·
  have hc : (E.enc l[i])[j]? = some ((E.enc l[i])[j]'(by rw [E.len]; exact hj)) := List.getElem?_eq_getElem _
  rw [z4v x hi hc]
  rfl
 ·
  exact World.ownsRow.frozenAt h _
end
end Go.Proofs.YtmihlihlpdkdcaaGreat
