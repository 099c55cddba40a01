import Derived.Test.YtkalofboioffiaaGreatQ09
namespace Go.Proofs.YtkalofboioffiaaGreat
open Go.RowKit
set_option maxRecDepth 200000
set_option maxHeartbeats 64000000
def att (l : List Aa) (i : Nat) : Aa := l.getD i zaa
def slA (l : List Aa) (i : Nat) : Nat := (att l i).slot.toNat
def MayA (l : List Aa) : Prop := l.length ≤ 6 ∧ ∀ i, i < l.length → slA l i ≤ 1099511627776
instance (l : List Aa) : Decidable (MayA l) := by unfold MayA; exact inferInstance
def mayA (l : List Aa) : Bool := decide (MayA l)
def yj5 (l : List Aa) (a : Aa) : Bool := mayA l && decide (a.slot.toNat ≤ 1099511627776)
def putE (l : List Aa) (a : Aa) : Nat := if yj5 l a = true then (if l.length = 6 then 3 else 0) else 1
def putA (l : List Aa) (a : Aa) : List Aa := if yj5 l a = true then (if l.length = 6 then l else l ++ [a]) else l
def zr2 (now : Nat) (a : Aa) : Bool := decide (a.slot.toNat < now)
def dueL (l : List Aa) (now : Nat) : List Aa := l.filter (zr2 now)
def zh4 (l : List Aa) (now : Nat) : List Aa := l.filter fun a => !zr2 now a
section
variable {l k : List Aa} {a : Aa} {now later : Nat}
theorem zsi {i : Nat} (h : i < l.length) : att l i = l[i] := by unfold att; simp [h]
theorem ygx : mayA l = true ↔ l.length ≤ 6 ∧ ∀ i, i < l.length → slA l i ≤ 1099511627776 := by unfold mayA; rw [decide_eq_true_iff]; rfl
theorem zhm : mayA l = true ↔ l.length ≤ 6 ∧ ∀ a, a ∈ l → a.slot.toNat ≤ 1099511627776 := by
 rw [ygx]
 refine and_congr Iff.rfl ⟨fun h a ha => ?_, fun h i hi => ?_⟩
 ·
  obtain ⟨i, hi, rfl⟩ := List.getElem_of_mem ha
  have := h i hi
  unfold slA at this
  rwa [zsi hi] at this
 ·
  unfold slA
  rw [zsi hi]
  exact h _ (List.getElem_mem hi)
theorem z9v : dueL (l ++ k) now = dueL l now ++ dueL k now := List.filter_append ..
theorem z4e : zh4 (l ++ k) now = zh4 l now ++ zh4 k now := List.filter_append ..
theorem z9w : (dueL l now).length + (zh4 l now).length = l.length := by
 unfold dueL zh4
 induction l with
 | nil => rfl
 | cons a l ih =>
  simp only [List.filter_cons]
  cases zr2 now a <;> simp <;> omega
theorem yjg : (dueL l now).length ≤ l.length := by have := z9w (l := l) (now := now); omega
theorem ycx : (zh4 l now).length ≤ l.length := by have := z9w (l := l) (now := now); omega
theorem z4f {x : Aa} (h : x ∈ zh4 l now) : x ∈ l ∧ ¬ x.slot.toNat < now := by
 unfold zh4 at h
 rw [List.mem_filter] at h
 unfold zr2 at h
 simpa using h
theorem ycw (h : ¬ a.slot.toNat < now) : zh4 (l ++ [a]) now = zh4 l now ++ [a] := by
 rw [z4e]
 congr 1
 unfold zh4 zr2
 simp [h]
theorem yf0 (h : a.slot.toNat < now) : dueL (l ++ [a]) now = dueL l now ++ [a] := by
 rw [z9v]
 congr 1
 unfold dueL zr2
 simp [h]
theorem ygy (h : mayA l = true) (hs : k.length ≤ l.length) (hm : ∀ x, x ∈ k → x ∈ l) : mayA k = true := zhm.2 ⟨by have := (zhm.1 h).1; omega, fun x hx => (zhm.1 h).2 x (hm x hx)⟩
end
structure Bk where
 root : Rt
 parent : Rt
 slot : UInt64
 just : UInt64
structure Eg where
 t : List Nd
 bal : List UInt64
 v : Vt
 w : List UInt64
 late : List Aa
 k : List Lk
 j : List Ck
 fin : Ck
 now : UInt64
theorem Eg.ext {x y : Eg} (h0 : x.t = y.t) (h1 : x.bal = y.bal) (h2 : x.v = y.v) (h3 : x.w = y.w) (h4 : x.late = y.late) (h5 : x.k = y.k) (h6 : x.j = y.j) (h7 : x.fin = y.fin) (h8 : x.now = y.now) : x = y := by cases x; cases y; simp_all
def inT (l : List Nd) (r : Rt) : Bool := decide (0 ≤ zal l r)
def MayG (e : Eg) : Prop :=
 (MayT e.t ∧ mayB e.bal = true ∧ mayV e.v = true ∧ mayA e.late = true ∧ mayL e.k = true ∧ e.v.l.length = e.bal.length ∧ e.now.toNat ≤ 1099511627776) ∧
 e.w = wtsL e.t e.v e.bal ∧ (∀ a, a ∈ e.late → e.now.toNat ≤ a.slot.toNat) ∧ e.fin ∈ e.j ∧ e.j.Nodup ∧ (∀ c, c ∈ e.j → inT e.t c.root = true) ∧
 (∀ i, i < e.v.l.length → (lat e.v.l i).has = true → inT e.t (lat e.v.l i).root = true) ∧ (∀ x, x ∈ e.k → inT e.t x.s.root = true ∧ inT e.t x.t.root = true) ∧
 zc5 e.t e.k e.bal e.j = e.j ∧ zgn e.t e.k e.bal e.j e.fin = e.fin
instance (e : Eg) : Decidable (MayG e) := by unfold MayG; exact inferInstance
def mayG (e : Eg) : Bool := decide (MayG e)
def newG (r : Rt) (bal : List UInt64) : Eg := ⟨[⟨r, -1, 0, 0⟩], bal, newV bal.length, [0], [], [], [⟨0, r⟩], ⟨0, r⟩, 0⟩
def ze9 (e : Eg) (b : Bk) : Nat :=
 if mayG e = true then (if e.now.toNat < b.slot.toNat then 7 else if insE e.t b.root b.parent b.slot = 0 then (if zb0 (insL e.t b.root b.parent b.slot b.just) (zal e.t e.fin.root) e.t.length = true then 0 else 8) else insE e.t b.root b.parent b.slot) else 1
def blkG (e : Eg) (b : Bk) : Eg := if ze9 e b = 0 then { e with t := insL e.t b.root b.parent b.slot b.just, w := e.w ++ [0] } else e
def fitG (e : Eg) (a : Aa) : Nat :=
 if 0 ≤ a.val ∧ a.val < e.bal.length then (if inT e.t a.head = true ∧ inT e.t a.source.root = true ∧ inT e.t a.target.root = true then (if a.source.epoch.toNat < a.target.epoch.toNat ∧ zb0 e.t (zal e.t a.source.root) (zal e.t a.target.root) = true ∧ zb0 e.t (zal e.t a.target.root) (zal e.t a.head) = true then 0 else 9) else 5) else 10
def ylp (e : Eg) (a : Aa) : Nat := errK e.k a.source a.target a.val
def ctK (e : Eg) (a : Aa) : List Lk := putK e.k a.source a.target a.val
def ctV (e : Eg) (a : Aa) : Vt := putV e.v a.val a.head a.target.epoch
def ctJ (e : Eg) (a : Aa) : List Ck := zc5 e.t (ctK e a) e.bal e.j
def ctG (e : Eg) (a : Aa) : Eg := if ylp e a = 0 then { e with k := ctK e a, v := ctV e a, w := wtsL e.t (ctV e a) e.bal, j := ctJ e a, fin := zgn e.t (ctK e a) e.bal (ctJ e a) e.fin } else e
def ylo (e : Eg) (a : Aa) : Nat := if mayG e = true then (if fitG e a = 0 then (if a.slot.toNat < e.now.toNat then ylp e a else putE e.late a) else fitG e a) else 1
def attG (e : Eg) (a : Aa) : Eg := if mayG e = true ∧ fitG e a = 0 then (if a.slot.toNat < e.now.toNat then ctG e a else { e with late := putA e.late a }) else e
def oneG (e : Eg) (a : Aa) : Eg := if fitG e a = 0 then ctG e a else e
def z0p (e : Eg) : Nat := if mayG e = true then (if e.now.toNat = 1099511627776 then 3 else 0) else 1
def upG (e : Eg) : Eg := { e with now := e.now + 1, late := zh4 e.late (e.now.toNat + 1) }
def yij (e : Eg) : Eg := if z0p e = 0 then (dueL e.late (e.now.toNat + 1)).foldl oneG (upG e) else e
def zif (e : Eg) : Nat := if mayG e = true then 0 else 1
def prT (e : Eg) : List Nd := cutZ e.t (zal e.t e.fin.root)
def prV (e : Eg) : Vt := zmn e.v ((prT e).map Nd.root)
def zsb (t : List Nd) (fin : Ck) (x : Lk) : Bool := (inT t x.s.root && inT t x.t.root) && decide (fin.epoch.toNat < x.t.epoch.toNat)
def zwa (t : List Nd) (fin c : Ck) : Bool := inT t c.root && decide (fin.epoch.toNat ≤ c.epoch.toNat)
def prG (e : Eg) : Eg := if zif e = 0 then { e with t := prT e, v := prV e, w := wtsL (prT e) (prV e) e.bal, k := e.k.filter (zsb (prT e) e.fin), j := e.j.filter (zwa (prT e) e.fin) } else e
inductive Cmd
 | block (b : Bk)
 | att (a : Aa)
 | tick
 | prune
 | form
 | other
def ypx (e : Eg) : Cmd → Nat
 | .block b => ze9 e b
 | .att a => ylo e a
 | .tick => z0p e
 | .prune => zif e
 | .form => if mayG e = true then 2 else 1
 | .other => 1
def doG (e : Eg) : Cmd → Eg
 | .block b => blkG e b
 | .att a => attG e a
 | .tick => yij e
 | .prune => prG e
 | _ => e
section
variable {e : Eg}
theorem mayG_iff : mayG e = true ↔ MayG e := by unfold mayG; rw [decide_eq_true_iff]
theorem zhg {l : List Nd} {r : Rt} : inT l r = true ↔ 0 ≤ zal l r := by unfold inT; rw [decide_eq_true_iff]
theorem zu0 {l : List Nd} {r : Rt} (h : MayT l) : inT l r = true ↔ ∃ i, i < l.length ∧ (nd l i).root = r := by
 rw [zhg]
 rcases zck h r with ⟨i, hi, e1, e2⟩ | ⟨e1, e2⟩
 ·
  exact ⟨fun _ => ⟨i, hi, e2⟩, fun _ => by omega⟩
 ·
  exact ⟨fun h => by omega, fun ⟨i, hi, h⟩ => absurd h (e2 i hi)⟩
theorem zil {l : List Nd} {r : Rt} (h : MayT l) (hr : inT l r = true) : ∃ i : Nat, i < l.length ∧ zal l r = i ∧ (nd l i).root = r := by
 rcases zck h r with h1 | ⟨e1, _⟩
 ·
  exact h1
 ·
  rw [zhg, e1] at hr; omega
structure MayS' (e : Eg) : Prop where
 t : MayT e.t
 bal : mayB e.bal = true
 v : mayV e.v = true
 late : mayA e.late = true
 k : mayL e.k = true
 vl : e.v.l.length = e.bal.length
 now : e.now.toNat ≤ 1099511627776
 w : e.w = wtsL e.t e.v e.bal
 slots : ∀ a, a ∈ e.late → e.now.toNat ≤ a.slot.toNat
 fin : e.fin ∈ e.j
 nod : e.j.Nodup
 inJ : ∀ c, c ∈ e.j → inT e.t c.root = true
 inV : ∀ i, i < e.v.l.length → (lat e.v.l i).has = true → inT e.t (lat e.v.l i).root = true
 inK : ∀ x, x ∈ e.k → inT e.t x.s.root = true ∧ inT e.t x.t.root = true
 more : zc5 e.t e.k e.bal e.j = e.j
 next : zgn e.t e.k e.bal e.j e.fin = e.fin
theorem ybk : MayG e ↔ MayS' e :=
 ⟨fun ⟨⟨h1, h2, h3, h4, h5, h6, h7⟩, h8, h9, h10, h11, h12, h13, h14, h15, h16⟩ => ⟨h1, h2, h3, h4, h5, h6, h7, h8, h9, h10, h11, h12, h13, h14, h15, h16⟩,
  fun h => ⟨⟨h.t, h.bal, h.v, h.late, h.k, h.vl, h.now⟩, h.w, h.slots, h.fin, h.nod, h.inJ, h.inV, h.inK, h.more, h.next⟩⟩
theorem zhx : mayG e = true ↔ MayS' e := mayG_iff.trans ybk
theorem MayS'.told (h : MayS' e) : zfe e.t e.k e.bal = true := zl6.2 ⟨h.t, h.k, h.bal⟩
theorem MayS'.fit (h : MayS' e) : fitB e.t e.v e.bal = true := zgm.2 ⟨h.t, h.v, h.bal, h.vl⟩
end
section
variable {cnt cnt' : Lk → Bool} {ls : List Lk} {js : List Ck}
theorem zyj : zcs cnt ls js = none ↔ ∀ k, k ∈ ls → cnt k = true → k.s ∈ js → k.t ∈ js := by
 constructor
 ·
  intro h k hk hc hs
  exact yha h hk hc hs
 ·
  intro h
  unfold zcs
  rw [List.find?_eq_none]
  intro k hk hf
  unfold z3l at hf
  simp only [Bool.and_eq_true, Bool.not_eq_true', decide_eq_true_iff, decide_eq_false_iff_not] at hf
  exact hf.2.2 (h k hk hf.1 hf.2.1)
theorem ybn : zqm cnt ls js = js ↔ zcs cnt ls js = none := by
 constructor
 ·
  intro h
  have := zkk (cnt := cnt) (ls := ls) ls.length js (zvq js)
  unfold zqm at h
  rwa [h] at this
 ·
  intro h; exact zd2 h _
theorem zql : ∀ (f : Nat) (js : List Ck), js.Nodup → (zex cnt ls f js).Nodup
 | 0, _, h => h
 | f + 1, js, h => by
  unfold zex
  cases e : zcs cnt ls js with
  | none => exact h
  | some k =>
   obtain ⟨_, _, _, hn⟩ := zlq e
   exact zql f _ (List.nodup_append.2 ⟨h, by simp, fun a ha b hb => by
    rw [List.mem_singleton] at hb; subst hb; intro e2; subst e2; exact hn ha⟩)
theorem ztd : ∀ (f : Nat) (js : List Ck) (c : Ck), c ∈ zex cnt ls f js → c ∈ js ∨ ∃ k, k ∈ ls ∧ k.t = c
 | 0, _, _, h => .inl h
 | f + 1, js, c, h => by
  unfold zex at h
  cases e : zcs cnt ls js with
  | none => rw [e] at h; exact .inl h
  | some k =>
   rw [e] at h
   rcases ztd f _ c h with h1 | h1
   ·
    rcases List.mem_append.1 h1 with h2 | h2
    ·
     exact .inl h2
    ·
     rw [List.mem_singleton] at h2; exact .inr ⟨k, (zlq e).1, h2.symm⟩
   ·
    exact .inr h1
theorem zyf : ∀ (f : Nat) (js : List Ck) (c : Ck), c ∈ js → c ∈ zex cnt ls f js
 | 0, _, _, h => h
 | f + 1, js, c, h => by
  unfold zex
  cases e : zcs cnt ls js with
  | none => exact h
  | some k => exact zyf f _ c (List.mem_append.2 (.inl h))
end
section
variable {l : List Nd} {ls : List Lk} {bal : List UInt64} {js : List Ck} {fin : Ck}
theorem z3y (h : zfe l ls bal = true) : zc5 l ls bal js = js ↔ ∀ k, k ∈ ls → cntB l bal k = true → k.s ∈ js → k.t ∈ js := by
 rw [zlo h, ybn, zyj]
theorem z07 (h : js.Nodup) : (zc5 l ls bal js).Nodup := by
 unfold zc5
 split
 ·
  exact zql _ _ h
 ·
  exact h
theorem z6l {c : Ck} (h : c ∈ zc5 l ls bal js) : c ∈ js ∨ ∃ k, k ∈ ls ∧ k.t = c := by
 unfold zc5 at h
 split at h
 ·
  exact ztd _ _ _ h
 ·
  exact .inl h
theorem ybm {c : Ck} (h : c ∈ js) : c ∈ zc5 l ls bal js := by
 unfold zc5
 split
 ·
  exact zyf _ _ _ h
 ·
  exact h
theorem z6m : zc5 l ls bal (zc5 l ls bal js) = zc5 l ls bal js := by
 unfold zc5
 split
 ·
  exact ybo js
 ·
  rfl
theorem ztc (h : zfe l ls bal = true) {c : Ck} : c ∈ zcx l ls bal js ↔ c ∈ js ∧ ∃ k, k ∈ ls ∧ cntB l bal k = true ∧ k.t ∈ js ∧ k.s = c ∧ k.t.epoch.toNat = c.epoch.toNat + 1 := by
 rw [zpq h]
 unfold zpr
 rw [List.mem_filter]
 unfold yai
 rw [List.any_eq_true]
 simp only [Bool.and_eq_true, decide_eq_true_iff]
theorem zvp {c : Ck} : okN l fin c = true ↔ zb9 l c fin = true ∧ fin.epoch.toNat < c.epoch.toNat := by
 unfold okN; rw [Bool.and_eq_true, decide_eq_true_iff]
theorem z30 : zgn l ls bal js fin = fin ↔ ∀ c, c ∈ zcx l ls bal js → okN l fin c = false := by
 constructor
 ·
  intro h c hc
  rw [← Bool.not_eq_true]
  intro hk
  have h3 := (zff zbz (okN l fin) (zcx l ls bal js) fin).2.2 c hc hk
  unfold zgn at h
  rw [h] at h3
  have := (zvp.1 hk).2
  omega
 ·
  intro h
  rcases zu5 (l := l) (ls := ls) (bal := bal) (js := js) (fin := fin) with e | ⟨h1, h2, h3⟩
  ·
   exact e
  ·
   have := h _ h1
   rw [zvp.2 ⟨h2, h3⟩] at this
   cases this
theorem ybw : zgn l ls bal js (zgn l ls bal js fin) = zgn l ls bal js fin := by
 rw [z30]
 intro c hc
 rw [← Bool.not_eq_true]
 intro hk
 obtain ⟨h1, h2⟩ := zvp.1 hk
 have h3 := (zff zbz (okN l fin) (zcx l ls bal js) fin).2.2 c hc
 change okN l fin c = true → c.epoch.toNat ≤ (zgn l ls bal js fin).epoch.toNat at h3
 rcases zu5 (l := l) (ls := ls) (bal := bal) (js := js) (fin := fin) with e | ⟨_, g2, g3⟩
 ·
  rw [e] at hk h2 h3
  have := h3 hk
  omega
 ·
  have := h3 (zvp.2 ⟨zwz h1 g2, by omega⟩)
  omega
theorem yhb (hf : fin ∈ js) : zgn l ls bal js fin ∈ js := by
 rcases zu5 (l := l) (ls := ls) (bal := bal) (js := js) (fin := fin) with e | ⟨h1, _, _⟩
 ·
  rw [e]; exact hf
 ·
  unfold zcx at h1
  split at h1
  ·
   unfold zpr at h1; exact (List.mem_filter.1 h1).1
  ·
   cases h1
end
def AgreeT (l l' : List Nd) (p : Rt → Prop) : Prop := ∀ c d : Ck, p c.root → p d.root → zb9 l c d = zb9 l' c d
theorem zig {l : List Nd} {x : Nd} (h : MayT l) (h' : MayT (l ++ [x])) {r : Rt} (hr : inT l r = true) : zal (l ++ [x]) r = zal l r := by
 obtain ⟨i, hi, e1, e2⟩ := zil h hr
 have := zeh h' (i := i) (by rw [List.length_append, List.length_singleton]; omega)
 rw [zd3 x hi, e2] at this
 rw [this, e1]
theorem zon {l : List Nd} {x : Nd} (h : MayT l) (h' : MayT (l ++ [x])) {r : Rt} (hr : inT l r = true) : inT (l ++ [x]) r = true := by rw [zhg, zig h h' hr, ← zhg]; exact hr
theorem zsh {l : List Nd} {x : Nd} (h : MayT l) (h' : MayT (l ++ [x])) : AgreeT l (l ++ [x]) (fun r => inT l r = true) := by
 intro c d hc hd
 unfold zb9
 rw [zig h h' hc, zig h h' hd]
 obtain ⟨i, hi, e1, _⟩ := zil h hc
 obtain ⟨k, hk, e2, _⟩ := zil h hd
 have hl : (l ++ [x]).length = l.length + 1 := by simp
 rw [e1, e2, zb6 h hk hi, zb6 h' (by omega) (by omega), zmg h h' k i hi]
theorem zj8 {l : List Nd} (h : MayT l) {i : Nat} (hi : i < l.length) {r : Rt} : inT (cutL l i) r = true ↔ ∃ a, zbw l i a = true ∧ (nd l a).root = r := by
 rw [zu0 (zee h hi)]
 constructor
 ·
  rintro ⟨m, hm, e⟩
  obtain ⟨k, hk, rfl⟩ := zh9 hm
  exact ⟨k, hk, by rw [zdd hk] at e; exact e⟩
 ·
  rintro ⟨a, ha, e⟩
  exact ⟨zbo l i a, zc0 ha, by rw [zdd ha]; exact e⟩
theorem zfs {l : List Nd} (h : MayT l) {i a : Nat} (hi : i < l.length) (ha : zbw l i a = true) : zal (cutL l i) (nd l a).root = (zbo l i a : Int) := by
 obtain ⟨h1, h2⟩ := zaz.1 ha
 rw [zuc h hi h1, if_pos h2]
theorem zwx {l : List Nd} (h : MayT l) {i : Nat} (hi : i < l.length) : AgreeT l (cutL l i) (fun r => inT (cutL l i) r = true) := by
 intro c d hc hd
 obtain ⟨a, ha, ea⟩ := (zj8 h hi).1 hc
 obtain ⟨b, hb, eb⟩ := (zj8 h hi).1 hd
 have hm := zee h hi
 unfold zb9
 rw [← ea, ← eb, zfs h hi ha, zfs h hi hb, zeh h (zaz.1 ha).1, zeh h (zaz.1 hb).1, zb6 h (zaz.1 hb).1 (zaz.1 ha).1, zb6 hm (zc0 hb) (zc0 ha), zgt h hi hb a ha]
section
variable {l l' : List Nd} {p : Rt → Prop} {bal : List UInt64}
theorem AgreeT.cnt (h : AgreeT l l' p) {k : Lk} (hs : p k.s.root) (ht : p k.t.root) : cntB l bal k = cntB l' bal k := by unfold cntB; rw [h _ _ ht hs]
theorem AgreeT.more (h : AgreeT l l' p) {ls ls' : List Lk} {js js' : List Ck} (hl : zfe l ls bal = true) (hl' : zfe l' ls' bal = true)
  (hin : ∀ x, x ∈ ls' → x ∈ ls ∧ p x.s.root ∧ p x.t.root) (hj : ∀ c, c ∈ js' → c ∈ js) (ht : ∀ x, x ∈ ls' → x.t ∈ js → x.t ∈ js') (hm : zc5 l ls bal js = js) : zc5 l' ls' bal js' = js' := by
 rw [z3y hl']
 rw [z3y hl] at hm
 intro k hk hc hs
 obtain ⟨h1, h2, h3⟩ := hin k hk
 exact ht k hk (hm k h1 (by rw [h.cnt h2 h3]; exact hc) (hj _ hs))
theorem AgreeT.next (h : AgreeT l l' p) {ls ls' : List Lk} {js js' : List Ck} {fin : Ck} (hl : zfe l ls bal = true) (hl' : zfe l' ls' bal = true)
  (hin : ∀ x, x ∈ ls' → x ∈ ls ∧ p x.s.root ∧ p x.t.root) (hj : ∀ c, c ∈ js' → c ∈ js ∧ p c.root) (hf : p fin.root) (hm : zgn l ls bal js fin = fin) : zgn l' ls' bal js' fin = fin := by
 rw [z30] at hm ⊢
 intro c hc
 obtain ⟨h1, k, h2, h3, h4, h5, h6⟩ := (ztc hl').1 hc
 obtain ⟨g1, g2, g3⟩ := hin k h2
 have := hm c ((ztc hl).2 ⟨(hj c h1).1, k, g1, by rw [h.cnt g2 g3]; exact h3, (hj _ h4).1, h5, h6⟩)
 unfold okN at this ⊢
 rwa [← h c fin (hj c h1).2 hf]
end
theorem yhr {l : List Lk} {s t : Ck} {v : Int} {x : Lk} (h : x ∈ putK l s t v) : (∃ y, y ∈ l ∧ x.s = y.s ∧ x.t = y.t) ∨ (x.s = s ∧ x.t = t) := by
 by_cases he : errK l s t v = 0
 ·
  by_cases ha : atK l s t < l.length
  ·
   rw [zlx he ha] at h
   rcases List.mem_or_eq_of_mem_set h with h1 | h1
   ·
    exact .inl ⟨x, h1, rfl, rfl⟩
   ·
    exact .inl ⟨_, z3u ha, by rw [h1], by rw [h1]⟩
  ·
   rw [ycp he ha] at h
   rcases List.mem_append.1 h with h1 | h1
   ·
    exact .inl ⟨x, h1, rfl, rfl⟩
   ·
    rw [List.mem_singleton] at h1; subst h1; exact .inr ⟨rfl, rfl⟩
 ·
  rw [ynk he] at h; exact .inl ⟨x, h, rfl, rfl⟩
theorem ymx {l : List Lk} : mayL l = true ↔ ((∀ x, x ∈ l → okK x) ∧ l.Pairwise fun a b => oneB b a = false) ∧ l.length ≤ 16 := by
 rw [zd1]
 refine and_congr ?_ Iff.rfl
 rw [List.pairwise_iff_getElem]
 constructor
 ·
  intro h
  refine ⟨fun x hx => ?_, fun i j hi hj hij => ?_⟩
  ·
   obtain ⟨i, hi, rfl⟩ := List.mem_iff_getElem.1 hx
   rw [← zcy hi]; exact (h i hi).1
  ·
   rw [← zcy hi, ← zcy hj]; exact (h j hj).2 i hij
 ·
  rintro ⟨h1, h2⟩ i hi
  refine ⟨h1 _ (z3u hi), fun k hk => ?_⟩
  rw [zcy hi, zcy (Nat.lt_trans hk hi)]
  exact h2 k i (Nat.lt_trans hk hi) hi hk
theorem z05 {l : List Lk} (p : Lk → Bool) (h : mayL l = true) : mayL (l.filter p) = true := by
 rw [ymx] at h ⊢
 exact ⟨⟨fun x hx => h.1.1 x (List.mem_filter.1 hx).1, h.1.2.filter p⟩, Nat.le_trans (List.length_filter_le _ _) h.2⟩
theorem yni {t : List Nd} {v : Vt} {z : Int} {r : Rt} {ep : UInt64} (hm : mayV v = true) (hz : 0 ≤ z ∧ z < v.l.length) (hr : inT t r = true) (hv : ∀ i, i < v.l.length → (lat v.l i).has = true → inT t (lat v.l i).root = true) :
  mayV (putV v z r ep) = true ∧ (putV v z r ep).l.length = v.l.length ∧ ∀ i, i < (putV v z r ep).l.length → (lat (putV v z r ep).l i).has = true → inT t (lat (putV v z r ep).l i).root = true := by
 have hp := (yhs (r := r) (ep := ep) hm hz).1
 have hzl : z.toNat < v.l.length := by omega
 refine ⟨by rw [hp]; exact yif hm hzl, yco, fun i hi hh => ?_⟩
 rw [yco] at hi
 rw [hp] at hh ⊢
 by_cases e : i = z.toNat
 ·
  subst e
  rcases zi9 v z.toNat r ep with ⟨f, _⟩ | ⟨f, _⟩ | ⟨f, _⟩
  ·
   rw [zk9 f] at hh ⊢; exact hv _ hi hh
  ·
   rw [zok f]; show inT t (lat (v.l.set z.toNat _) z.toNat).root = true; rw [zkg hzl, if_pos rfl]; exact hr
  ·
   rw [zol f] at hh
   have hh' : (lat (v.l.set z.toNat zlt) z.toNat).has = true := hh
   rw [zkg hzl, if_pos rfl] at hh'
   cases hh'
 ·
  rw [z72 hzl e] at hh ⊢
  exact hv i hi hh
theorem ylz {a b : List UInt64} {k : Nat} (h : k < a.length) : fn (a ++ b) k = fn a k := by
 unfold fn; rw [List.getD_eq_getElem?_getD, List.getElem?_append_left h, ← List.getD_eq_getElem?_getD]
theorem yl0 {a : List UInt64} {x : UInt64} : fn (a ++ [x]) a.length = x.toNat := by
 unfold fn; rw [List.getD_eq_getElem?_getD, List.getElem?_append_right (Nat.le_refl _), Nat.sub_self]; rfl
theorem yc2 {p : Nat → Bool} {f : Nat → Nat} {n : Nat} (h : ∀ k, k < n → p k = false) : selF p f n = 0 := by
 unfold selF
 rw [zbu (g := fun _ => 0) n (fun k hk => by rw [h k hk]; rfl)]
 exact zey _
theorem ztq {p q : Nat → Bool} {f : Nat → Nat} {n : Nat} (h : ∀ k, k < n → p k = q k) : selF p f n = selF q f n := by
 unfold selF
 exact zbu n (fun k hk => by rw [h k hk])
section
variable {e : Eg} {a : Aa} {b : Bk}
theorem zs2 (he : ze9 e b = 0) : mayG e = true ∧ b.slot.toNat ≤ e.now.toNat ∧ insE e.t b.root b.parent b.slot = 0 ∧ zb0 (insL e.t b.root b.parent b.slot b.just) (zal e.t e.fin.root) e.t.length = true := by
 unfold ze9 at he
 split at he
 ·
  rename_i h1
  split at he
  ·
   omega
  ·
   split at he
   ·
    split at he
    ·
     rename_i h2 h3 h4; exact ⟨h1, by omega, h3, h4⟩
    ·
     omega
   ·
    rename_i h3; exact absurd he h3
 ·
  omega
theorem yi4 (h : MayS' e) {x : Nd} (h' : MayT (e.t ++ [x])) (hx : inT e.t x.root = false) : wtsL (e.t ++ [x]) e.v e.bal = e.w ++ [0] := by
 have hf := h.fit
 have hf' : fitB (e.t ++ [x]) e.v e.bal = true := zgm.2 ⟨h', h.v, h.bal, h.vl⟩
 have hwl : e.w.length = e.t.length := by rw [h.w, zrp hf]
 have hlen : (e.t ++ [x]).length = e.t.length + 1 := by simp
 have hown : ∀ k, k < e.t.length → ownF (e.t ++ [x]) e.v e.bal k = ownF e.t e.v e.bal k := fun k hk => by
  unfold ownF
  exact ztq fun u _ => by unfold forB; rw [zd3 x hk]
 have hlast : ownF (e.t ++ [x]) e.v e.bal e.t.length = 0 := by
  unfold ownF
  refine yc2 fun u hu => ?_
  unfold forB
  rw [zm1]
  cases hh : (lat e.v.l u).has
  ·
   rfl
  ·
   rw [Bool.true_and, decide_eq_false_iff_not]
   intro e2
   have := h.inV u (by rw [h.vl]; exact hu) hh
   rw [e2, hx] at this
   cases this
 refine yal (by rw [zrp hf', hlen, List.length_append, hwl]; rfl) fun i hi => ?_
 rw [List.length_append, hwl] at hi
 have hi' : i < e.t.length + 1 := hi
 rw [z4w hf' (by rw [hlen]; exact hi')]
 have hsum : subT (e.t ++ [x]) (ownF (e.t ++ [x]) e.v e.bal) i = sumF (fun k => if zao (e.t ++ [x]) i k = true then ownF (e.t ++ [x]) e.v e.bal k else 0) e.t.length := by
  unfold subT
  rw [hlen]
  show sumF _ e.t.length + (if zao (e.t ++ [x]) i e.t.length = true then ownF (e.t ++ [x]) e.v e.bal e.t.length else 0) = _
  rw [hlast]
  split <;> omega
 rw [hsum]
 rcases Nat.lt_succ_iff_lt_or_eq.1 hi' with h1 | rfl
 ·
  rw [ylz (by rw [hwl]; exact h1), h.w, z4w hf h1]
  unfold subT
  exact zbu _ fun k hk => by rw [zmg h.t h' i k hk, hown k hk]
 ·
  rw [← hwl, yl0]
  rw [hwl]
  rw [zbu (g := fun _ => 0) e.t.length (fun k hk => by rw [zr3 h' hk]; rfl), zey]
  rfl
theorem yo7 (h : MayS' e) (b : Bk) : MayS' (blkG e b) := by
 unfold blkG
 by_cases he : ze9 e b = 0
 ·
  rw [if_pos he]
  obtain ⟨_, _, h3, h4⟩ := zs2 he
  have h' := zu2 b.just h3
  have hL : insL e.t b.root b.parent b.slot b.just = e.t ++ [insN e.t b.root b.parent b.slot b.just] := by unfold insL; rw [if_pos h3]
  obtain ⟨_, g2, _, _⟩ := zp4 h3
  have hx : inT e.t (insN e.t b.root b.parent b.slot b.just).root = false := by
   show inT e.t b.root = false
   unfold inT; rw [g2]; rfl
  have ag := zsh h.t h'
  have htold : zfe (e.t ++ [insN e.t b.root b.parent b.slot b.just]) e.k e.bal = true := zl6.2 ⟨h', h.k, h.bal⟩
  rw [hL]
  exact {
   t := h', bal := h.bal, v := h.v, late := h.late, k := h.k, vl := h.vl, now := h.now
   w := (yi4 h h' hx).symm
   slots := h.slots, fin := h.fin, nod := h.nod
   inJ := fun c hc => zon h.t h' (h.inJ c hc)
   inV := fun i hi hh => zon h.t h' (h.inV i hi hh)
   inK := fun x hx => ⟨zon h.t h' (h.inK x hx).1, zon h.t h' (h.inK x hx).2⟩
   more := ag.more h.told htold (fun x hx => ⟨hx, (h.inK x hx).1, (h.inK x hx).2⟩) (fun c hc => hc) (fun x _ ht => ht) h.more
   next := ag.next h.told htold (fun x hx => ⟨hx, (h.inK x hx).1, (h.inK x hx).2⟩) (fun c hc => ⟨hc, h.inJ c hc⟩) (h.inJ _ h.fin) h.next }
 ·
  rw [if_neg he]; exact h
theorem ygd (hf : fitG e a = 0) : (0 ≤ a.val ∧ a.val < e.bal.length) ∧ (inT e.t a.head = true ∧ inT e.t a.source.root = true ∧ inT e.t a.target.root = true) ∧ a.source.epoch.toNat < a.target.epoch.toNat ∧ zb0 e.t (zal e.t a.source.root) (zal e.t a.target.root) = true ∧ zb0 e.t (zal e.t a.target.root) (zal e.t a.head) = true := by
 unfold fitG at hf
 split at hf
 ·
  rename_i h1
  split at hf
  ·
   rename_i h2
   split at hf
   ·
    rename_i h3; exact ⟨h1, h2, h3⟩
   ·
    omega
  ·
   omega
 ·
  omega
theorem ct_G (h : MayS' e) (hf : fitG e a = 0) : MayS' (ctG e a) := by
 unfold ctG
 by_cases he : ylp e a = 0
 ·
  rw [if_pos he]
  obtain ⟨hv, ⟨hh, hs, ht⟩, _, _, _⟩ := ygd hf
  have hk : mayL (ctK e a) = true := (yml he).2.1
  obtain ⟨v1, v2, v3⟩ := yni (ep := a.target.epoch) h.v (by rw [h.vl]; exact hv) hh h.inV
  have hinK : ∀ x, x ∈ ctK e a → inT e.t x.s.root = true ∧ inT e.t x.t.root = true := fun x hx => by
   rcases yhr hx with ⟨y, hy, e1, e2⟩ | ⟨e1, e2⟩
   ·
    rw [e1, e2]; exact h.inK y hy
   ·
    rw [e1, e2]; exact ⟨hs, ht⟩
  have hinJ : ∀ c, c ∈ ctJ e a → inT e.t c.root = true := fun c hc => by
   rcases z6l hc with h1 | ⟨k, hk, rfl⟩
   ·
    exact h.inJ c h1
   ·
    exact (hinK k hk).2
  exact {
   t := h.t, bal := h.bal, v := v1, late := h.late, k := hk, vl := v2.trans h.vl, now := h.now, w := rfl, slots := h.slots
   fin := yhb (ybm h.fin)
   nod := z07 h.nod
   inJ := hinJ, inV := v3, inK := hinK
   more := z6m
   next := ybw }
 ·
  rw [if_neg he]; exact h
theorem yth (h : MayS' e) (a : Aa) : MayS' (oneG e a) := by
 unfold oneG
 split
 ·
  rename_i hf; exact ct_G h hf
 ·
  exact h
theorem yp9 (h : e.now.toNat ≤ 1099511627776) : (e.now + 1).toNat = e.now.toNat + 1 := by
 rw [UInt64.toNat_add]
 show (e.now.toNat + 1) % _ = _
 omega
theorem up_G (h : MayS' e) (hn : e.now.toNat ≠ 1099511627776) : MayS' (upG e) := by
 have hu := yp9 h.now
 have := h.now
 exact { h with
  now := by show (e.now + 1).toNat ≤ _; omega
  late := ygy h.late ycx (fun x hx => (z4f hx).1)
  slots := fun a ha => by
   have := (z4f ha).2
   show (e.now + 1).toNat ≤ _
   omega }
theorem z5v (he : z0p e = 0) : mayG e = true ∧ e.now.toNat ≠ 1099511627776 := by
 unfold z0p at he
 split at he
 ·
  rename_i h1
  split at he
  ·
   omega
  ·
   rename_i h2; exact ⟨h1, h2⟩
 ·
  omega
theorem zye {l : List Nd} (h : MayT l) {r : Rt} : r ∈ l.map Nd.root ↔ inT l r = true := by
 rw [zu0 h, List.mem_map]
 constructor
 ·
  rintro ⟨x, hx, rfl⟩
  obtain ⟨i, hi, rfl⟩ := List.mem_iff_getElem.1 hx
  exact ⟨i, hi, by rw [zqn l hi]⟩
 ·
  rintro ⟨i, hi, rfl⟩
  exact ⟨l[i], List.getElem_mem hi, by rw [zqn l hi]⟩
theorem zxm (h : MayS' e) : ∃ i : Nat, i < e.t.length ∧ zal e.t e.fin.root = i ∧ (nd e.t i).root = e.fin.root ∧ prT e = cutL e.t i := by
 obtain ⟨i, hi, e1, e2⟩ := zil h.t (h.inJ _ h.fin)
 exact ⟨i, hi, e1, e2, by unfold prT; rw [e1, yfp h.t hi]⟩
theorem zzh {t : List Nd} {fin : Ck} {x : Lk} : zsb t fin x = true ↔ (inT t x.s.root = true ∧ inT t x.t.root = true) ∧ fin.epoch.toNat < x.t.epoch.toNat := by
 unfold zsb; rw [Bool.and_eq_true, Bool.and_eq_true, decide_eq_true_iff]
theorem zg6 {t : List Nd} {fin c : Ck} : zwa t fin c = true ↔ inT t c.root = true ∧ fin.epoch.toNat ≤ c.epoch.toNat := by
 unfold zwa; rw [Bool.and_eq_true, decide_eq_true_iff]
theorem zzg {keep : List Rt} {x : Lt} : zsa keep x = true ↔ x.root ∈ keep := by unfold zsa; rw [decide_eq_true_iff]
theorem ych (h : MayS' e) {i : Nat} (hi : i < e.v.l.length) (ht : MayT (prT e)) : lat (prV e).l i = if inT (prT e) (lat e.v.l i).root = true then lat e.v.l i else zlt := by
 unfold prV
 rw [z26 h.v hi]
 by_cases hs : inT (prT e) (lat e.v.l i).root = true
 ·
  rw [if_pos hs, if_pos (zzg.2 ((zye ht).2 hs))]
 ·
  rw [if_neg hs, if_neg (fun e2 => hs ((zye ht).1 (zzg.1 e2)))]
theorem pr_G (h : MayS' e) : MayS' (prG e) := by
 unfold prG
 split
 ·
  obtain ⟨i, hi, e1, e2, e3⟩ := zxm h
  have ht : MayT (prT e) := by rw [e3]; exact zee h.t hi
  have ag : AgreeT e.t (prT e) (fun r => inT (prT e) r = true) := by rw [e3]; exact zwx h.t hi
  have hfin : inT (prT e) e.fin.root = true := by rw [e3, zj8 h.t hi]; exact ⟨i, zfv h.t hi, e2⟩
  have hk := z05 (zsb (prT e) e.fin) h.k
  have htold : zfe (prT e) (e.k.filter (zsb (prT e) e.fin)) e.bal = true := zl6.2 ⟨ht, hk, h.bal⟩
  have hin : ∀ x, x ∈ e.k.filter (zsb (prT e) e.fin) → x ∈ e.k ∧ inT (prT e) x.s.root = true ∧ inT (prT e) x.t.root = true := fun x hx => by
   obtain ⟨h1, h2⟩ := List.mem_filter.1 hx
   obtain ⟨h3, _⟩ := zzh.1 h2
   exact ⟨h1, h3⟩
  exact {
   t := ht, bal := h.bal, v := yfz h.v, late := h.late, k := hk, vl := drop_len.trans h.vl, now := h.now, w := rfl, slots := h.slots
   fin := List.mem_filter.2 ⟨h.fin, zg6.2 ⟨hfin, Nat.le_refl _⟩⟩
   nod := h.nod.filter _
   inJ := fun c hc => (zg6.1 (List.mem_filter.1 hc).2).1
   inV := fun u hu hh => by
    have hu' : u < e.v.l.length := by have h1 : u < (prV e).l.length := hu; rwa [show (prV e).l.length = e.v.l.length from drop_len] at h1
    have hl := ych h hu' ht
    show inT (prT e) (lat (prV e).l u).root = true
    have hh' : (lat (prV e).l u).has = true := hh
    rw [hl] at hh' ⊢
    by_cases hs : inT (prT e) (lat e.v.l u).root = true
    ·
     rw [if_pos hs]; exact hs
    ·
     rw [if_neg hs] at hh'; cases hh'
   inK := fun x hx => (hin x hx).2
   more := ag.more h.told htold hin (fun c hc => (List.mem_filter.1 hc).1) (fun x hx hj => by
    obtain ⟨_, h2⟩ := List.mem_filter.1 hx
    obtain ⟨h3, h4⟩ := zzh.1 h2
    exact List.mem_filter.2 ⟨hj, zg6.2 ⟨h3.2, by omega⟩⟩) h.more
   next := ag.next h.told htold hin (fun c hc => ⟨(List.mem_filter.1 hc).1, (zg6.1 (List.mem_filter.1 hc).2).1⟩) hfin h.next }
 ·
  exact h
end
end Go.Proofs.YtkalofboioffiaaGreat
