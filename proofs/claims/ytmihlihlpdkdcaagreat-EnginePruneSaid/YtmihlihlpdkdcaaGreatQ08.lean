import Derived.Test.YtmihlihlpdkdcaaGreatQ03
import Derived.Test.YtmihlihlpdkdcaaGreatQ01
import Derived.Test.YtmihlihlpdkdcaaGreatQ02
import Derived.Test.YtmihlihlpdkdcaaGreatQ07
import Derived.Test.YtmihlihlpdkdcaaGreatQ04
import Derived.Test.YtmihlihlpdkdcaaGreatQ05
namespace Go.Proofs.YtmihlihlpdkdcaaGreat
open Go.RowKit
set_option maxRecDepth 200000
set_option maxHeartbeats 64000000
theorem yov {w : World} {a b : Obj} : Below w.heap.size w ((w.alloc a).alloc b) := ((Below.refl _ _).alloc (Nat.le_refl _) _).alloc (by simp) _
def zgk (l : List Nd) (ls : List Lk) (bal : List UInt64) : Bool := decide (MayT l) && (mayL ls && mayB bal)
def cntB (l : List Nd) (bal : List UInt64) (k : Lk) : Bool := za7 l k.t k.s && yms bal k.mask
def zda (l : List Nd) (ls : List Lk) (bal : List UInt64) (js : List Ck) : List Ck := if zgk l ls bal = true then ztv (cntB l bal) ls js else js
def zc4 (l : List Nd) (ls : List Lk) (bal : List UInt64) (js : List Ck) : List Ck := if zgk l ls bal = true then zt3 (cntB l bal) ls js else []
def okN (l : List Nd) (fin c : Ck) : Bool := za7 l c fin && decide (fin.epoch.toNat < c.epoch.toNat)
def zha (l : List Nd) (ls : List Lk) (bal : List UInt64) (js : List Ck) (fin : Ck) : Ck := zf6 zi0 (okN l fin) (zc4 l ls bal js) fin
def zzx (l : List Nd) (js : List Ck) (fin : Ck) : Ck := zf6 zi0 (fun c => za7 l c fin) js fin
section
variable {l : List Nd} {ls : List Lk} {bal : List UInt64} {js : List Ck} {fin : Ck}
theorem znk : zgk l ls bal = true ↔ MayT l ∧ mayL ls = true ∧ mayB bal = true := by unfold zgk; rw [Bool.and_eq_true, Bool.and_eq_true, decide_eq_true_iff]
theorem ym7 (h : zgk l ls bal = false) : zda l ls bal js = js := by unfold zda; rw [if_neg (by rw [h]; exact Bool.false_ne_true)]
theorem zno (h : zgk l ls bal = true) : zda l ls bal js = ztv (cntB l bal) ls js := by unfold zda; rw [if_pos h]
theorem z8l (h : zgk l ls bal = false) : zc4 l ls bal js = [] := by unfold zc4; rw [if_neg (by rw [h]; exact Bool.false_ne_true)]
theorem zrv (h : zgk l ls bal = true) : zc4 l ls bal js = zt3 (cntB l bal) ls js := by unfold zc4; rw [if_pos h]
theorem zq7 : zha l ls bal js fin = fin ∨ (zha l ls bal js fin ∈ zc4 l ls bal js ∧ za7 l (zha l ls bal js fin) fin = true ∧ fin.epoch.toNat < (zha l ls bal js fin).epoch.toNat) := by
 obtain ⟨h, _, _⟩ := zib zi0 (okN l fin) (zc4 l ls bal js) fin
 rcases h with h | ⟨h1, h2⟩
 ·
  exact .inl h
 ·
  unfold okN at h2
  rw [Bool.and_eq_true, decide_eq_true_iff] at h2
  exact .inr ⟨h1, h2.1, h2.2⟩
theorem z81 {c d : Ck} (h : za7 l c d = true) : MayT l := by obtain ⟨_, _, hm, _⟩ := zc9 h; exact hm
theorem z04 {c d : Ck} (h : za7 l d c = true) : zg3 l [c, d] = true := by
 have hm := z81 h
 have hcc : za7 l c c = true := by
  obtain ⟨i, k, _, e1, e2, hi, hk, ha⟩ := zc9 h
  exact zjj hm e1 e1 hi hi (zel hm hi)
 refine yjd hm fun x y hx hy => ?_
 rcases List.mem_cons.1 hx with rfl | hx
 ·
  rcases List.mem_cons.1 hy with rfl | hy
  ·
   exact .inl hcc
  ·
   rw [List.mem_singleton] at hy; subst hy; exact .inr h
 ·
  rw [List.mem_singleton] at hx; subst hx
  rcases List.mem_cons.1 hy with rfl | hy
  ·
   exact .inl h
  ·
   rw [List.mem_singleton] at hy; subst hy; exact .inl (z3g h)
def orB (l : List Nd) (a b : Ck) : Bool := za7 l a b || za7 l b a
theorem zkw {cs : List Ck} : zg3 l cs = true ↔ MayT l ∧ ∀ i, i < cs.length → ∀ k, k < i → orB l (ckAt cs i) (ckAt cs k) = true := by
 unfold zg3 orB ckAt
 rw [Bool.and_eq_true, decide_eq_true_iff, decide_eq_true_iff]
 simp only [Bool.or_eq_true]
end
def att (l : List Aa) (i : Nat) : Aa := l.getD i zaa
def slA (l : List Aa) (i : Nat) : Nat := (att l i).slot.toNat
def MayA (l : List Aa) : Prop := l.length ≤ 6 ∧ ∀ i, i < l.length → slA l i ≤ 1099511627776
instance (l : List Aa) : Decidable (MayA l) := by unfold MayA; exact inferInstance
def mayA (l : List Aa) : Bool := decide (MayA l)
def zng (l : List Aa) (a : Aa) : Bool := mayA l && decide (a.slot.toNat ≤ 1099511627776)
def putE (l : List Aa) (a : Aa) : Nat := if zng l a = true then (if l.length = 6 then 3 else 0) else 1
def putA (l : List Aa) (a : Aa) : List Aa := if zng l a = true then (if l.length = 6 then l else l ++ [a]) else l
def zqe (now : Nat) (a : Aa) : Bool := decide (a.slot.toNat < now)
def dueL (l : List Aa) (now : Nat) : List Aa := l.filter (zqe now)
def zg7 (l : List Aa) (now : Nat) : List Aa := l.filter fun a => !zqe now a
section
variable {l k : List Aa} {a : Aa} {now later : Nat}
theorem znt {i : Nat} (h : i < l.length) : att l i = l[i] := by unfold att; simp [h]
theorem yip : mayA l = true ↔ l.length ≤ 6 ∧ ∀ i, i < l.length → slA l i ≤ 1099511627776 := by unfold mayA; rw [decide_eq_true_iff]; rfl
theorem zdy : mayA l = true ↔ l.length ≤ 6 ∧ ∀ a, a ∈ l → a.slot.toNat ≤ 1099511627776 := by
 rw [yip]
 refine and_congr Iff.rfl ⟨fun h a ha => ?_, fun h i hi => ?_⟩
 ·
  obtain ⟨i, hi, rfl⟩ := List.getElem_of_mem ha
  have := h i hi
  unfold slA at this
  rwa [znt hi] at this
 ·
  unfold slA
  rw [znt hi]
  exact h _ (List.getElem_mem hi)
theorem yc5 : dueL (l ++ k) now = dueL l now ++ dueL k now := List.filter_append ..
theorem z5y : zg7 (l ++ k) now = zg7 l now ++ zg7 k now := List.filter_append ..
theorem ydu : (dueL l now).length + (zg7 l now).length = l.length := by
 unfold dueL zg7
 induction l with
 | nil => rfl
 | cons a l ih =>
  simp only [List.filter_cons]
  cases zqe now a <;> simp <;> omega
theorem z65 : (dueL l now).length ≤ l.length := by have := ydu (l := l) (now := now); omega
theorem ygx : (zg7 l now).length ≤ l.length := by have := ydu (l := l) (now := now); omega
theorem z7m {x : Aa} (h : x ∈ zg7 l now) : x ∈ l ∧ ¬ x.slot.toNat < now := by
 unfold zg7 at h
 rw [List.mem_filter] at h
 unfold zqe at h
 simpa using h
theorem z77 (h : mayA l = true) (ha : a.slot.toNat ≤ 1099511627776) (hl : l.length < 6) : putA l a = l ++ [a] ∧ putE l a = 0 ∧ mayA (l ++ [a]) = true := by
 have e : zng l a = true := by unfold zng; rw [h, decide_eq_true ha]; rfl
 refine ⟨by unfold putA; rw [if_pos e, if_neg (by omega)], by unfold putE; rw [if_pos e, if_neg (by omega)], zdy.2 ⟨by simp; omega, fun x hx => ?_⟩⟩
 rcases List.mem_append.1 hx with hx | hx
 ·
  exact (zdy.1 h).2 x hx
 ·
  rw [List.mem_singleton.1 hx]; exact ha
theorem ydj (h : ¬ a.slot.toNat < now) : zg7 (l ++ [a]) now = zg7 l now ++ [a] := by
 rw [z5y]
 congr 1
 unfold zg7 zqe
 simp [h]
theorem ymt (h : a.slot.toNat < now) : dueL (l ++ [a]) now = dueL l now ++ [a] := by
 rw [yc5]
 congr 1
 unfold dueL zqe
 simp [h]
theorem ylm (h : mayA l = true) (hs : k.length ≤ l.length) (hm : ∀ x, x ∈ k → x ∈ l) : mayA k = true := zdy.2 ⟨by have := (zdy.1 h).1; omega, fun x hx => (zdy.1 h).2 x (hm x hx)⟩
end
structure Bk where
 root : Rt
 parent : Rt
 slot : UInt64
 just : UInt64
structure Eg where
 t : List Nd
 bal : List UInt64
 v : Vt
 w : List UInt64
 late : List Aa
 k : List Lk
 j : List Ck
 fin : Ck
 now : UInt64
theorem Eg.ext {x y : Eg} (h0 : x.t = y.t) (h1 : x.bal = y.bal) (h2 : x.v = y.v) (h3 : x.w = y.w) (h4 : x.late = y.late) (h5 : x.k = y.k) (h6 : x.j = y.j) (h7 : x.fin = y.fin) (h8 : x.now = y.now) : x = y := by cases x; cases y; simp_all
instance : DecidableEq Eg := fun x y => decidable_of_iff (x.t = y.t ∧ x.bal = y.bal ∧ x.v = y.v ∧ x.w = y.w ∧ x.late = y.late ∧ x.k = y.k ∧ x.j = y.j ∧ x.fin = y.fin ∧ x.now = y.now) ⟨fun h => Eg.ext h.1 h.2.1 h.2.2.1 h.2.2.2.1 h.2.2.2.2.1 h.2.2.2.2.2.1 h.2.2.2.2.2.2.1 h.2.2.2.2.2.2.2.1 h.2.2.2.2.2.2.2.2, fun h => by subst h; exact ⟨rfl, rfl, rfl, rfl, rfl, rfl, rfl, rfl, rfl⟩⟩
def inT (l : List Nd) (r : Rt) : Bool := decide (0 ≤ zay l r)
def MayG (e : Eg) : Prop :=
 (MayT e.t ∧ mayB e.bal = true ∧ mayV e.v = true ∧ mayA e.late = true ∧ mayL e.k = true ∧ e.v.l.length = e.bal.length ∧ e.now.toNat ≤ 1099511627776) ∧
 e.w = wtsL e.t e.v e.bal ∧ (∀ a, a ∈ e.late → e.now.toNat ≤ a.slot.toNat) ∧ e.fin ∈ e.j ∧ e.j.Nodup ∧ (∀ c, c ∈ e.j → inT e.t c.root = true) ∧
 (∀ i, i < e.v.l.length → (lat e.v.l i).has = true → inT e.t (lat e.v.l i).root = true) ∧ (∀ x, x ∈ e.k → inT e.t x.s.root = true ∧ inT e.t x.t.root = true) ∧
 zda e.t e.k e.bal e.j = e.j ∧ zha e.t e.k e.bal e.j e.fin = e.fin
instance (e : Eg) : Decidable (MayG e) := by unfold MayG; exact inferInstance
def mayG (e : Eg) : Bool := decide (MayG e)
def newG (r : Rt) (bal : List UInt64) : Eg := ⟨[⟨r, -1, 0, 0⟩], bal, newV bal.length, [0], [], [], [⟨0, r⟩], ⟨0, r⟩, 0⟩
def ze6 (e : Eg) (b : Bk) : Nat :=
 if mayG e = true then (if e.now.toNat < b.slot.toNat then 7 else if insE e.t b.root b.parent b.slot = 0 then (if zcj (insL e.t b.root b.parent b.slot b.just) (zay e.t e.fin.root) e.t.length = true then 0 else 8) else insE e.t b.root b.parent b.slot) else 1
def blkG (e : Eg) (b : Bk) : Eg := if ze6 e b = 0 then { e with t := insL e.t b.root b.parent b.slot b.just, w := e.w ++ [0] } else e
def fitG (e : Eg) (a : Aa) : Nat :=
 if 0 ≤ a.val ∧ a.val < e.bal.length then (if inT e.t a.head = true ∧ inT e.t a.source.root = true ∧ inT e.t a.target.root = true then (if a.source.epoch.toNat < a.target.epoch.toNat ∧ zcj e.t (zay e.t a.source.root) (zay e.t a.target.root) = true ∧ zcj e.t (zay e.t a.target.root) (zay e.t a.head) = true then 0 else 9) else 5) else 10
def zlz (e : Eg) (a : Aa) : Nat := errK e.k a.source a.target a.val
def ctK (e : Eg) (a : Aa) : List Lk := putK e.k a.source a.target a.val
def ctV (e : Eg) (a : Aa) : Vt := putV e.v a.val a.head a.target.epoch
def ctJ (e : Eg) (a : Aa) : List Ck := zda e.t (ctK e a) e.bal e.j
def ctG (e : Eg) (a : Aa) : Eg := if zlz e a = 0 then { e with k := ctK e a, v := ctV e a, w := wtsL e.t (ctV e a) e.bal, j := ctJ e a, fin := zha e.t (ctK e a) e.bal (ctJ e a) e.fin } else e
def zft (e : Eg) (a : Aa) : Nat := if mayG e = true then (if fitG e a = 0 then (if a.slot.toNat < e.now.toNat then zlz e a else putE e.late a) else fitG e a) else 1
def attG (e : Eg) (a : Aa) : Eg := if mayG e = true ∧ fitG e a = 0 then (if a.slot.toNat < e.now.toNat then ctG e a else { e with late := putA e.late a }) else e
def oneG (e : Eg) (a : Aa) : Eg := if fitG e a = 0 then ctG e a else e
def zee (e : Eg) : Nat := if mayG e = true then (if e.now.toNat = 1099511627776 then 3 else 0) else 1
def upG (e : Eg) : Eg := { e with now := e.now + 1, late := zg7 e.late (e.now.toNat + 1) }
def zd2 (e : Eg) : Eg := if zee e = 0 then (dueL e.late (e.now.toNat + 1)).foldl oneG (upG e) else e
def zjg (e : Eg) : Nat := if mayG e = true then 0 else 1
def prT (e : Eg) : List Nd := cutZ e.t (zay e.t e.fin.root)
def prV (e : Eg) : Vt := zjz e.v ((prT e).map Nd.root)
def zps (t : List Nd) (fin : Ck) (x : Lk) : Bool := (inT t x.s.root && inT t x.t.root) && decide (fin.epoch.toNat < x.t.epoch.toNat)
def zqn (t : List Nd) (fin c : Ck) : Bool := inT t c.root && decide (fin.epoch.toNat ≤ c.epoch.toNat)
def prG (e : Eg) : Eg := if zjg e = 0 then { e with t := prT e, v := prV e, w := wtsL (prT e) (prV e) e.bal, k := e.k.filter (zps (prT e) e.fin), j := e.j.filter (zqn (prT e) e.fin) } else e
inductive Cmd
 | block (b : Bk)
 | att (a : Aa)
 | tick
 | prune
 | form
 | other
def zfs (e : Eg) : Cmd → Nat
 | .block b => ze6 e b
 | .att a => zft e a
 | .tick => zee e
 | .prune => zjg e
 | .form => if mayG e = true then 2 else 1
 | .other => 1
def doG (e : Eg) : Cmd → Eg
 | .block b => blkG e b
 | .att a => attG e a
 | .tick => zd2 e
 | .prune => prG e
 | _ => e
section
variable {e : Eg}
theorem mayG_iff : mayG e = true ↔ MayG e := by unfold mayG; rw [decide_eq_true_iff]
theorem zhs {l : List Nd} {r : Rt} : inT l r = true ↔ 0 ≤ zay l r := by unfold inT; rw [decide_eq_true_iff]
theorem z45 {l : List Nd} {r : Rt} (h : MayT l) : inT l r = true ↔ ∃ i, i < l.length ∧ (nd l i).root = r := by
 rw [zhs]
 rcases ze3 h r with ⟨i, hi, e1, e2⟩ | ⟨e1, e2⟩
 ·
  exact ⟨fun _ => ⟨i, hi, e2⟩, fun _ => by omega⟩
 ·
  exact ⟨fun h => by omega, fun ⟨i, hi, h⟩ => absurd h (e2 i hi)⟩
theorem ztl {l : List Nd} {r : Rt} (h : MayT l) (hr : inT l r = true) : ∃ i : Nat, i < l.length ∧ zay l r = i ∧ (nd l i).root = r := by
 rcases ze3 h r with h1 | ⟨e1, _⟩
 ·
  exact h1
 ·
  rw [zhs, e1] at hr; omega
structure MayS' (e : Eg) : Prop where
 t : MayT e.t
 bal : mayB e.bal = true
 v : mayV e.v = true
 late : mayA e.late = true
 k : mayL e.k = true
 vl : e.v.l.length = e.bal.length
 now : e.now.toNat ≤ 1099511627776
 w : e.w = wtsL e.t e.v e.bal
 slots : ∀ a, a ∈ e.late → e.now.toNat ≤ a.slot.toNat
 fin : e.fin ∈ e.j
 nod : e.j.Nodup
 inJ : ∀ c, c ∈ e.j → inT e.t c.root = true
 inV : ∀ i, i < e.v.l.length → (lat e.v.l i).has = true → inT e.t (lat e.v.l i).root = true
 inK : ∀ x, x ∈ e.k → inT e.t x.s.root = true ∧ inT e.t x.t.root = true
 more : zda e.t e.k e.bal e.j = e.j
 next : zha e.t e.k e.bal e.j e.fin = e.fin
theorem yh0 : MayG e ↔ MayS' e :=
 ⟨fun ⟨⟨h1, h2, h3, h4, h5, h6, h7⟩, h8, h9, h10, h11, h12, h13, h14, h15, h16⟩ => ⟨h1, h2, h3, h4, h5, h6, h7, h8, h9, h10, h11, h12, h13, h14, h15, h16⟩,
  fun h => ⟨⟨h.t, h.bal, h.v, h.late, h.k, h.vl, h.now⟩, h.w, h.slots, h.fin, h.nod, h.inJ, h.inV, h.inK, h.more, h.next⟩⟩
theorem zdu : mayG e = true ↔ MayS' e := mayG_iff.trans yh0
theorem MayS'.told (h : MayS' e) : zgk e.t e.k e.bal = true := znk.2 ⟨h.t, h.k, h.bal⟩
theorem MayS'.fit (h : MayS' e) : fitB e.t e.v e.bal = true := zfd.2 ⟨h.t, h.v, h.bal, h.vl⟩
end
open Go.RowKit
section
variable {P : Program}
theorem zal {T : TypeId} {n : Nat} (hA : ∀ w, (isAgg T).run P w = .ok true w) (hS : ∀ w, (Go.sizeOf T).run P w = .ok n w) (fn : Func) (d e : Nat) (h : fn.results = #[.cell d T, .tmp e]) (tmps : Array Value) (w : World) (b : Nat) (c : Array Value) (v : Value) (hp : tmps.getD d undef = .pointer (some ⟨b, 0, none⟩)) (hv : tmps.getD e undef = v) (hl : ldA w (.pointer (some ⟨b, 0, none⟩)) n = some c) :
  (results fn tmps).run P w = .ok (.tuple #[.agg c, v]) w := by
 have hp' : tmps[d]?.getD undef = .pointer (some ⟨b, 0, none⟩) := by simpa using hp
 have hv' : tmps[e]?.getD undef = v := by simpa using hv
 simp [results, h, hp', hv', asAddr, zdq hA hS w b 0 c hl]
theorem zdv {T : TypeId} {n : Nat} (hA : ∀ w, (isAgg T).run P w = .ok true w) (hS : ∀ w, (Go.sizeOf T).run P w = .ok n w) (fn : Func) (d e f : Nat) (h : fn.results = #[.cell d T, .tmp e, .tmp f]) (tmps : Array Value) (w : World) (b : Nat) (c : Array Value) (v u : Value) (hp : tmps.getD d undef = .pointer (some ⟨b, 0, none⟩)) (hv : tmps.getD e undef = v) (hu : tmps.getD f undef = u) (hl : ldA w (.pointer (some ⟨b, 0, none⟩)) n = some c) :
  (results fn tmps).run P w = .ok (.tuple #[.agg c, v, u]) w := by
 have hp' : tmps[d]?.getD undef = .pointer (some ⟨b, 0, none⟩) := by simpa using hp
 have hv' : tmps[e]?.getD undef = v := by simpa using hv
 have hu' : tmps[f]?.getD undef = u := by simpa using hu
 simp [results, h, hp', hv', hu', asAddr, zdq hA hS w b 0 c hl]
theorem zcf {T : TypeId} {n : Nat} (hA : ∀ w, (isAgg T).run P w = .ok true w) (hS : ∀ w, (Go.sizeOf T).run P w = .ok n w) (fn : Func) (d : Nat) (h : fn.results = #[.cell d T]) (tmps : Array Value) (w : World) (b : Nat) (c : Array Value) (hp : tmps.getD d undef = .pointer (some ⟨b, 0, none⟩)) (hl : ldA w (.pointer (some ⟨b, 0, none⟩)) n = some c) :
  (results fn tmps).run P w = .ok (.agg c) w := by
 have hp' : tmps[d]?.getD undef = .pointer (some ⟨b, 0, none⟩) := by simpa using hp
 simp [results, h, hp', asAddr, zdq hA hS w b 0 c hl]
end
@[go_sem] theorem ymq (w : World) (c : Array Value) (t : TypeId) (b o n : Nat) (h : b = w.heap.size) (hn : o + n ≤ c.size) : wrA (w.alloc (.cells c t)) (.pointer (some ⟨b, o, none⟩)) n = true := by
 subst h
 exact yfa (heap_alloc_last w _) hn
theorem zk1 {α : Type} {E : Lie α} (w : World) (l : List α) (n : Nat) (hn : l.length = n) (hl : n ≤ maxLen) (c : Array Value) (hc : c.toList = zan E l) (b : Nat) (hb : b = w.heap.size) : OwnE E (w.alloc (.cells c E.t)) b (.slice (some ⟨b, 0, none⟩) n n) l := by
 subst hb hn
 have hs : c.size = l.length * E.n := by rw [← Array.length_toList, hc, zbd]
 refine ⟨zbd E l, .inr ⟨w.heap.size, l.length, c, rfl, Nat.le_refl _, heap_alloc_last w _, Nat.le_refl _, hl, hs, ?_⟩⟩
 rw [hc]
 exact List.take_of_length_le (by rw [zbd]; exact Nat.le_refl _)
theorem below1 {w : World} {o : Obj} : Below w.heap.size w (w.alloc o) := (Below.refl _ _).alloc (Nat.le_refl _) _
theorem zab {w w' : World} {b : Nat} {o : Obj} (g : Below w.heap.size w w') (h : w.heap[b]? = some o) : w'.heap[b]? = some o := (g.block _ (Array.getElem?_eq_some_iff.1 h).1).trans h
theorem zfw (w : World) (a b c : Array Value) (s t u : TypeId) (W : World) (hW : W = ((w.alloc (.cells a s)).alloc (.cells b t)).alloc (.cells c u)) : Below w.heap.size w W ∧ W.heap[w.heap.size]? = some (.cells a s (0, 0)) ∧ W.heap[w.heap.size + 1]? = some (.cells b t (0, 0)) ∧ W.heap[w.heap.size + 2]? = some (.cells c u (0, 0)) ∧ W.heap.size = w.heap.size + 3 := by
 subst hW
 have e1 : ∀ o : Obj, (w.alloc o).heap.size = w.heap.size + 1 := fun o => by simp
 have e2 : ∀ o o' : Obj, ((w.alloc o).alloc o').heap.size = w.heap.size + 2 := fun o o' => by simp
 refine ⟨zad (zad below1 below1) below1, ?_, ?_, ?_, by simp⟩
 ·
  exact zab below1 (zab below1 (heap_alloc_last w _))
 ·
  have := zab (below1 (o := .cells c u)) (heap_alloc_last (w.alloc (.cells a s)) (.cells b t))
  rwa [e1] at this
 ·
  have := heap_alloc_last ((w.alloc (.cells a s)).alloc (.cells b t)) (.cells c u)
  rwa [e2] at this
theorem zd0 (w : World) (a b : Array Value) (s t : TypeId) (W : World) (hW : W = (w.alloc (.cells a s)).alloc (.cells b t)) : Below w.heap.size w W ∧ W.heap[w.heap.size]? = some (.cells a s (0, 0)) ∧ W.heap[w.heap.size + 1]? = some (.cells b t (0, 0)) ∧ W.heap.size = w.heap.size + 2 := by
 subst hW
 have e1 : ∀ o : Obj, (w.alloc o).heap.size = w.heap.size + 1 := fun o => by simp
 refine ⟨zad below1 below1, ?_, ?_, by simp⟩
 ·
  exact zab below1 (heap_alloc_last w _)
 ·
  have := heap_alloc_last (w.alloc (.cells a s)) (.cells b t)
  rwa [e1] at this
theorem za3 {w : World} {g o : Nat} {v : Value} (h : w.cell? ⟨g, o, none⟩ = some v) (p : Wd w.drew) : p.w.cell? ⟨g, o, none⟩ = some v := (p.h.cell (p := ⟨g, o, none⟩) (block_lt_of_cell (show w.drew.cell? ⟨g, o, none⟩ = some v from h))).trans h
theorem zb8 {w : World} {v : Value} {n : Nat} {c : Array Value} (h : ldA w v n = some c) (hn : 0 < n := by decide) (p : Wd w.drew) : ldA p.w v n = some c := yo2 (show ldA w.drew v n = _ by rw [zyr]; exact h) hn p
theorem zby {w : World} {g : Nat} {c r : Array Value} {t : TypeId} (hg : w.heap[g]? = some (.cells c t (0, 0))) (h : r.size = c.size) : (stA w (.pointer (some ⟨g, 0, none⟩)) (.agg r)).heap[g]? = some (.cells r t (0, 0)) := by
 rw [zbu hg (by omega)]
 congr 2
 apply Array.toList_inj.1
 unfold zax
 simp only [List.take_zero, List.nil_append, Nat.zero_add]
 rw [List.drop_of_length_le (by rw [Array.length_toList]; omega), List.append_nil]
section
open Go.RowKit
def byv (n : UInt8) : Value := .int .u8 (n.toNat : Int)
attribute [go_sem] byv
theorem z4z : Tryz.prog.cellsOf 5 = 1 := by kernel_rfl
def Ebyt : Lie UInt8 := ⟨5, 1, fun n => [byv n], by decide, fun _ => rfl, fun _ u h => by rw [List.mem_singleton.1 h]; rfl⟩
section
open Go.WideShapes Go.ChangeShapes
variable {H : Type} {enc : TypeId × Value → H} {w : World} {base : Nat} {sp : Nat → Bool} {held : Bool}
theorem yhg {fuel : Nat} {cs : List Value} {x : DataW H × List MemPlace} (h : DataW.trod enc Tryz.prog w base sp held fuel 5 cs = some x) : ∃ n : UInt8, cs = [byv n] := by
 obtain ⟨n, e1, _, e3⟩ := DataW.trod_int Tryz.underlying5 h
 have hb : (decide (IntKind.u8.min ≤ n) && decide (n ≤ IntKind.u8.max)) = true := e3
 rw [Bool.and_eq_true, decide_eq_true_eq, decide_eq_true_eq, show IntKind.u8.min = 0 from rfl, show IntKind.u8.max = 255 from rfl] at hb
 refine ⟨UInt8.ofNat n.toNat, ?_⟩
 rw [e1, byv, UInt8.toNat_ofNat', Nat.mod_eq_of_lt (by simp; omega)]
 congr 2
 omega
end
end
section
open Go.RowKit
section
open Go.WideShapes Go.ChangeShapes
variable {H : Type} {enc : TypeId × Value → H} {w : World} {base : Nat} {sp : Nat → Bool} {held : Bool}
theorem yci {fuel : Nat} {v : Value} {x : DataW H × List MemPlace} (h : DataW.trod enc Tryz.prog w base sp held fuel 46 [v] = some x) : ∃ l : List UInt8, SlE Ebyt w v l :=
 zmd Tryz.underlying46 z4z (fun _ _ _ h => yhg h) h
theorem z83 {fuel : Nat} {cs : List Value} {x : DataW H × List MemPlace} (h : DataW.trod enc Tryz.prog w base sp held fuel 46 cs = some x) : ∃ s : SlV, cs = [sv s] ∧ ∃ l : List UInt8, SlE Ebyt w (sv s) l := by
 rcases Deep.open_slice Tryz.underlying46 h with ⟨h1, _⟩ | ⟨a', len', cap', _, _, _, _, h1, _⟩
 ·
  subst h1
  exact ⟨⟨none, 0, 0⟩, rfl, [], zbt _ _ _ _⟩
 ·
  subst h1
  exact ⟨⟨some a', len', cap'⟩, rfl, yci h⟩
end
end
section
open Go.RowKit
structure Cl where
 kind : Int
 raw : SlV
 a : Rt
 b : Rt
 slot : UInt64
def clL (x : Cl) : List Value := [.int .i64 x.kind] ++ ([sv x.raw] ++ ((rc x.a).toList ++ ((rc x.b).toList ++ ([num x.slot]))))
def cl (x : Cl) : Array Value := (clL x).toArray
theorem ys9 (x : Cl) : (cl x).toList = clL x := rfl
theorem ytu (x : Cl) : (clL x).length = 67 := by simp [clL, zar]
theorem zrj (x : Cl) : (cl x).size = 67 := by rw [← Array.length_toList, ys9, ytu]
def zcl : Cl := ⟨0, ⟨none, 0, 0⟩, zr, zr, 0⟩
theorem ypr (w : World) : (zeroValue 48).run Tryz.prog w = .ok (.agg (cl zcl)) w := by kernel_rfl
@[go_sem ↓] theorem yya (ρ : Operand → Value) (dst : Option Tmp) (x : Operand) (ty : TypeId) (pos : String) (after : Array Edge) (guard : Option (Nat × Bool)) (w : World) :
  (execOp ρ { dst, op := .load 48 x, type := ty, pos, after, guard }).run Tryz.prog w = zje (ldA w (ρ x) 67) w (zbe Tryz.prog ρ { dst, op := .load 48 x, type := ty, pos, after, guard } w) :=
 zbp Tryz.isAgg48 Tryz.sizeOf48 ρ dst x ty pos after guard w
def places_cl : List (Nat × Nat) := [(0, 1), (1, 1), (2, 32), (34, 32), (66, 1)]
theorem yc1 : ∀ w : World, ((Tryz.prog.fieldsOf 48).mapM (m := Sem) fun f => do pure (f.offset, ← Go.sizeOf f.type)).run Tryz.prog w = .ok places_cl.toArray w := fun _ => by kernel_rfl
theorem zik : Tryz.prog.underlying 48 = some (.struct (Tryz.prog.fieldsOf 48)) := by kernel_rfl
theorem zsi : (Tryz.prog.fieldsOf 48).toList.map (fun f => (f.name, f.type, f.offset)) = [("Kind", 3, 0), ("Raw", 46, 1), ("A", 23, 2), ("B", 23, 34), ("Slot", 30, 66)] := by kernel_rfl
@[go_sem ↓] theorem yxe (ρ : Operand → Value) (dst : Option Tmp) (p : Nat × Operand) (ps : List (Nat × Operand)) (ty : TypeId) (pos : String) (after : Array Edge) (guard : Option (Nat × Bool)) (w : World) :
  (execOp ρ { dst, op := .build 48 (p :: ps).toArray, type := ty, pos, after, guard }).run Tryz.prog w = zhu ((zi1 places_cl (cl zcl) ((p.1, ρ p.2) :: ps.map fun p => (p.1, ρ p.2))).map .agg) w (zbe Tryz.prog ρ { dst, op := .build 48 (p :: ps).toArray, type := ty, pos, after, guard } w) :=
 zcb ypr zik yc1 ρ dst (p :: ps).toArray ty pos after guard w
attribute [go_sem] places_cl zrj
theorem zkk (x : Cl) : clL x = ([]) ++ ([.int .i64 x.kind] ++ ([sv x.raw] ++ ((rc x.a).toList ++ ((rc x.b).toList ++ ([num x.slot]))))) ∧ ([] : List Value).length = 0 := by
 constructor
 ·
  unfold clL; simp
 ·
  rfl
theorem z9l {w : World} {b off : Nat} {x : Cl} (h : w.rangeAt b off (clL x)) : w.cell? ⟨b, off + 0, none⟩ = some (.int .i64 x.kind) := zbj h (zkk x).1 (zkk x).2
theorem zdf {w : World} {g : Nat} {t : TypeId} {fr : Nat × Nat} {x : Cl} (h : w.heap[g]? = some (.cells (cl x) t fr)) : w.cell? ⟨g, 0, none⟩ = some (.int .i64 x.kind) := by have := z9l (x := x) (zai h); rwa [Nat.zero_add] at this
theorem z4r (x : Cl) (y : Int) : zax (cl x) 0 #[.int .i64 y] = cl { x with kind := y } := by
 rw [za0 (c := cl x) (r := #[.int .i64 y]) (zkk x).1 (zkk x).2 rfl]
 simp [cl, clL]
theorem zmv (x : Cl) : clL x = ([.int .i64 x.kind]) ++ ([sv x.raw] ++ ((rc x.a).toList ++ ((rc x.b).toList ++ ([num x.slot])))) ∧ ([.int .i64 x.kind] : List Value).length = 1 := by
 constructor
 ·
  unfold clL; simp
 ·
  simp
theorem ydb {w : World} {b off : Nat} {x : Cl} (h : w.rangeAt b off (clL x)) : w.cell? ⟨b, off + 1, none⟩ = some (sv x.raw) := zbj h (zmv x).1 (zmv x).2
theorem zkn {w : World} {g : Nat} {t : TypeId} {fr : Nat × Nat} {x : Cl} (h : w.heap[g]? = some (.cells (cl x) t fr)) : w.cell? ⟨g, 1, none⟩ = some (sv x.raw) := by have := ydb (x := x) (zai h); rwa [Nat.zero_add] at this
theorem zuy (x : Cl) (y : SlV) : zax (cl x) 1 #[sv y] = cl { x with raw := y } := by
 rw [za0 (c := cl x) (r := #[sv y]) (zmv x).1 (zmv x).2 rfl]
 simp [cl, clL]
attribute [go_sem] z4r zuy
@[go_sem] theorem yqz (x : Cl) (p : Option Addr) (k c : Nat) : zax (cl x) 1 #[.slice p k c] = cl { x with raw := ⟨p, k, c⟩ } := zuy x ⟨p, k, c⟩
theorem ya0 : Tryz.prog.cellsOf 48 = 67 := by kernel_rfl
section
open Go.WideShapes Go.ChangeShapes
variable {H : Type} {enc : TypeId × Value → H} {w : World} {base : Nat} {sp : Nat → Bool} {held : Bool}
theorem yjn {fuel : Nat} {cs : List Value} {x : DataW H × List MemPlace} (hl : cs.length = 67) (h : DataW.trod enc Tryz.prog w base sp held fuel 48 cs = some x) : ∃ a : Cl, cs = clL a ∧ (∃ l, SlE Ebyt w (sv a.raw) l) := by
 obtain ⟨_, _, h0⟩ := zaw (i := 0) zik zsi rfl h
 rw [zl4] at h0
 obtain ⟨a0, e0⟩ := zsf h0
 obtain ⟨_, _, h1⟩ := zaw (i := 1) zik zsi rfl h
 rw [show Tryz.prog.cellsOf 46 = 1 from by kernel_rfl] at h1
 obtain ⟨a1, e1, k1_0⟩ := z83 h1
 obtain ⟨_, _, h2⟩ := zaw (i := 2) zik zsi rfl h
 rw [zc7] at h2
 obtain ⟨a2, e2⟩ := zek h2
 obtain ⟨_, _, h3⟩ := zaw (i := 3) zik zsi rfl h
 rw [zc7] at h3
 obtain ⟨a3, e3⟩ := zek h3
 obtain ⟨_, _, h4⟩ := zaw (i := 4) zik zsi rfl h
 rw [zb9] at h4
 obtain ⟨a4, e4⟩ := zdh h4
 refine ⟨⟨a0, a1, a2, a3, a4⟩, ?_, k1_0⟩
 unfold clL
 have j0 := zbc cs 0 1
 rw [e0] at j0
 have j1 := zbc cs 1 1
 rw [e1] at j1
 have j2 := zbc cs 2 32
 rw [e2] at j2
 have j3 := zbc cs 34 32
 rw [e3] at j3
 have j4 := zbc cs 66 1
 rw [e4] at j4
 have jl : cs.drop 67 = [] := List.drop_of_length_le (by omega)
 rw [show (66 + 1) = 67 from rfl, jl, List.append_nil] at j4
 rw [← List.drop_zero (l := cs)]
 rw [← j0]
 rw [show cs.drop (0 + 1) = cs.drop 1 from rfl, ← j1]
 rw [show cs.drop (1 + 1) = cs.drop 2 from rfl, ← j2]
 rw [show cs.drop (2 + 32) = cs.drop 34 from rfl, ← j3]
 rw [show cs.drop (34 + 32) = cs.drop 66 from rfl, ← j4]
 try rfl
theorem open_cl {r : Reach} {b0 : Nat} {v : Value} {d : DataW H} {ps : List MemPlace} (hval : Value.okWide Tryz.prog w r b0 48 v) (hd : DataW.Trod enc Tryz.prog w base sp held 48 v d ps) : ∃ a : Cl, v = .agg (cl a) ∧ (∃ l, SlE Ebyt w (sv a.raw) l) := by
 obtain ⟨xs, rfl, hn⟩ := okWide_struct zik hval
 rw [ya0] at hn
 obtain ⟨fuel, hf⟩ := hd
 obtain ⟨a, ha, k1_0⟩ := yjn (cs := xs.toList) (by rw [Array.length_toList, hn]) hf
 exact ⟨a, by rw [show xs = cl a from Array.toList_inj.1 ha], k1_0⟩
end
attribute [irreducible] cl
end
def bt (l : List UInt8) (i : Nat) : Int := ((l.getD i 0).toNat : Int)
def b8 (l : List UInt8) : List Value := l.map fun b => .int .u8 (b.toNat : Int)
theorem yb4 (l : List UInt8) (i : Nat) : 0 ≤ bt l i ∧ bt l i < 256 := by
 unfold bt
 have := (l.getD i 0).toNat_lt
 omega
theorem zkb (l : List UInt8) : (b8 l).length = l.length := by simp [b8]
theorem z6z (l : List UInt8) (i : Nat) (h : i < l.length) : (b8 l)[i]? = some (.int .u8 (bt l i)) := by
 simp [b8, bt, h]
theorem yf3 (k l : List UInt8) : b8 (k ++ l) = b8 k ++ b8 l := by simp [b8]
theorem yo7 (l : List UInt8) : ∀ u ∈ b8 l, u.oneCell' = true := fun u h => by
 obtain ⟨b, _, rfl⟩ := List.mem_map.1 h
 rfl
theorem ypx (l : List UInt8) (n i : Nat) : bt (l.drop n) i = bt l (n + i) := by simp [bt]
theorem ydw (l : List UInt8) (n i : Nat) (h : i < n) : bt (l.take n) i = bt l i := by simp [bt, h]
theorem yug {k l : List UInt8} (hl : k.length = l.length) (h : ∀ i, i < l.length → bt k i = bt l i) : k = l := by
 apply List.ext_getElem hl
 intro i h1 h2
 have := h i h2
 unfold bt at this
 rw [zdc _ h1, zdc _ h2] at this
 exact UInt8.toNat_inj.1 (by omega)
theorem yym (r : Rt) : (rc r).toList = b8 r.toList := by simp [rc, b8, Vector.toList]
theorem ye2 (r : Rt) (i : Nat) : at8 r i = bt r.toList i := rfl
def dgsY : Nat → Nat → List UInt8
 | 0, _ => []
 | k + 1, m => dgsY k (m / 256) ++ [UInt8.ofNat (m % 256)]
def zwb (l : List UInt8) : Nat := l.foldl (fun n d => 256 * n + d.toNat) 0
theorem ztj : ∀ k m, (dgsY k m).length = k
 | 0, _ => rfl
 | k + 1, m => by rw [dgsY, List.length_append, ztj k]; rfl
theorem z3d (l : List UInt8) (d : UInt8) : zwb (l ++ [d]) = 256 * zwb l + d.toNat := by simp [zwb]
theorem z90 : zwb [] = 0 := rfl
theorem zvx : ∀ k m, zwb (dgsY k m) = m % 256 ^ k
 | 0, m => by rw [dgsY, z90, Nat.pow_zero]; omega
 | k + 1, m => by
  rw [dgsY, z3d, zvx k]
  have e : (UInt8.ofNat (m % 256)).toNat = m % 256 := by simp
  rw [e, Nat.pow_succ, Nat.mul_comm (256 ^ k) 256, Nat.mod_mul]
  omega
def zop (n : UInt64) : List UInt8 := dgsY 8 n.toNat
def zu5 (l : List UInt8) : UInt64 := UInt64.ofNat (zwb (l.take 8))
theorem zhg (n : UInt64) : (zop n).length = 8 := ztj _ _
theorem p64Y : (256 : Nat) ^ 8 = 18446744073709551616 := by decide
theorem zsc (n : UInt64) (r : List UInt8) : zu5 (zop n ++ r) = n := by
 unfold zu5
 rw [List.take_append_of_le_length (by rw [zhg]; omega), List.take_of_length_le (by rw [zhg]; omega), zop, zvx, p64Y]
 have := n.toNat_lt
 rw [Nat.mod_eq_of_lt (by omega), UInt64.ofNat_toNat]
def z3o (l : List UInt8) : Rt := Vector.ofFn fun i : Fin 32 => l.getD i.val 0
theorem ylq (l : List UInt8) (i : Nat) (h : i < 32) : at8 (z3o l) i = bt l i := by
 unfold at8 bt z3o
 rw [zdc _ (by simp; exact h)]
 simp
theorem zh3 (r : Rt) : r.toList.length = 32 := by simp
theorem z1j (r : Rt) (l : List UInt8) : z3o (r.toList ++ l) = r := by
 refine yem fun i hi => ?_
 rw [ylq _ i hi, ye2]
 unfold bt
 rw [zdc _ (by rw [List.length_append, zh3]; omega), zdc _ (by rw [zh3]; omega), List.getElem_append_left (by rw [zh3]; omega)]
def zbY : Bk := ⟨zr, zr, 0, 0⟩
def zjy (b : Bk) : List UInt8 := 1 :: (b.root.toList ++ (b.parent.toList ++ (zop b.slot ++ zop b.just)))
def zul (l : List UInt8) : Bk := ⟨z3o (l.drop 1), z3o (l.drop 33), zu5 (l.drop 65), zu5 (l.drop 73)⟩
def isBY (l : List UInt8) : Bool := decide (l.length = 81) && decide (bt l 0 = 1)
def zzm (l : List UInt8) : Bk := if isBY l = true then zul l else zbY
theorem zqa (b : Bk) : (zjy b).length = 81 := by simp [zjy, zhg]
theorem yga (b : Bk) : isBY (zjy b) = true := by
 unfold isBY
 rw [zqa]
 rfl
theorem ya7 (b : Bk) : zul (zjy b) = b := by
 have e1 : (zjy b).drop 1 = b.root.toList ++ (b.parent.toList ++ (zop b.slot ++ zop b.just)) := rfl
 have e2 : (zjy b).drop 33 = b.parent.toList ++ (zop b.slot ++ zop b.just) := by
  rw [show (33 : Nat) = 1 + 32 from rfl, ← List.drop_drop, e1, List.drop_left' (zh3 _)]
 have e3 : (zjy b).drop 65 = zop b.slot ++ zop b.just := by
  rw [show (65 : Nat) = 33 + 32 from rfl, ← List.drop_drop, e2, List.drop_left' (zh3 _)]
 have e4 : (zjy b).drop 73 = zop b.just ++ [] := by
  rw [show (73 : Nat) = 65 + 8 from rfl, ← List.drop_drop, e3, List.drop_left' (zhg _), List.append_nil]
 unfold zul
 rw [e1, e2, e3, e4, z1j, z1j, zsc, zsc]
def zcY : Ck := ⟨0, zr⟩
def zaY : Aa := ⟨0, 0, zr, zcY, zcY⟩
def yve (l : List UInt8) : Ck := ⟨zu5 l, z3o (l.drop 8)⟩
def zzr (l : List UInt8) : Aa := ⟨256 * bt l 1 + bt l 2, zu5 (l.drop 3), z3o (l.drop 11), yve (l.drop 43), yve (l.drop 83)⟩
def isAY (l : List UInt8) : Bool := decide (l.length = 123) && decide (bt l 0 = 2)
def z0l (l : List UInt8) : Aa := if isAY l = true then zzr l else zaY
open Go.RowKit
structure LaidG (W : World) (x : En) (g : Eg) : Prop where
 t : SlE Ene W (sv x.t.n) g.t
 bal : SlE Enum W (sv x.bal) g.bal
 v : SlE Elt W (sv x.v.l) g.v.l
 w : SlE Enum W (sv x.w) g.w
 late : SlE Eaa W (sv x.late) g.late
 k : SlE Elk W (sv x.k) g.k
 j : SlE Ecc W (sv x.j) g.j
 out : x.v.out = g.v.out
 fin : x.fin = g.fin
 now : x.now = g.now
theorem LaidG.keep {W W' : World} {x : En} {g : Eg} (b : Below W.heap.size W W') (h : LaidG W x g) : LaidG W' x g :=
 ⟨zac b h.t, zac b h.bal, zac b h.v, zac b h.w, zac b h.late, zac b h.k, zac b h.j, h.out, h.fin, h.now⟩
structure Gv (w W : World) (T : Nat) (x : En) (g : Eg) : Prop where
 box : W.heap[T]? = some (.cells (en x) 39 (0, 0))
 l : LaidG W x g
 g : Below w.heap.size w W
section
variable {w W W' : World} {T : Nat} {x : En} {g : Eg}
theorem Gv.keep (h : Gv w W T x g) (b : Below W.heap.size W W') : Gv w W' T x g := ⟨zab b h.box, h.l.keep b, zad h.g b⟩
theorem Gv.z (h : Gv w W T x g) : ldA W (.pointer (some ⟨T, 0, none⟩)) 42 = some (en x) := zaf h.box (zas x)
theorem Gv.lt (h : Gv w W T x g) : T < W.heap.size := (Array.getElem?_eq_some_iff.1 h.box).1
theorem Gv.zt (h : Gv w W T x g) : W.cell? ⟨T, 0, none⟩ = some (sv x.t.n) := zpb h.box
theorem Gv.zT (h : Gv w W T x g) : ldA W (.pointer (some ⟨T, 0, none⟩)) 1 = some (tr ⟨x.t.n⟩) := yky h.box
theorem Gv.zV (h : Gv w W T x g) : ldA W (.pointer (some ⟨T, 2, none⟩)) 2 = some (vo ⟨x.v.l, g.v.out⟩) := by rw [← h.l.out]; exact ym6 h.box
theorem Gv.zb (h : Gv w W T x g) : W.cell? ⟨T, 1, none⟩ = some (sv x.bal) := zou h.box
theorem Gv.zv (h : Gv w W T x g) : W.cell? ⟨T, 2, none⟩ = some (sv x.v.l) := zoi h.box
theorem Gv.zw (h : Gv w W T x g) : W.cell? ⟨T, 4, none⟩ = some (sv x.w) := zq1 h.box
theorem Gv.zl (h : Gv w W T x g) : W.cell? ⟨T, 5, none⟩ = some (sv x.late) := zmc h.box
theorem Gv.zk (h : Gv w W T x g) : W.cell? ⟨T, 6, none⟩ = some (sv x.k) := zml h.box
theorem Gv.zj (h : Gv w W T x g) : W.cell? ⟨T, 7, none⟩ = some (sv x.j) := zny h.box
theorem Gv.zf (h : Gv w W T x g) : ldA W (.pointer (some ⟨T, 8, none⟩)) 33 = some (cc g.fin) := by rw [← h.l.fin]; exact ybh h.box
theorem Gv.ze (h : Gv w W T x g) : W.cell? ⟨T, 8, none⟩ = some (.int .u64 (g.fin.epoch.toNat : Int)) := by rw [← h.l.fin]; exact zf0 h.box
theorem Gv.zr (h : Gv w W T x g) : ldA W (.pointer (some ⟨T, 9, none⟩)) 32 = some (rc g.fin.root) := by rw [← h.l.fin]; exact zt0 h.box
theorem Gv.zn (h : Gv w W T x g) : W.cell? ⟨T, 41, none⟩ = some (.int .u64 (g.now.toNat : Int)) := by rw [← h.l.now]; exact z9v h.box
theorem zud (h : LaidG w x g) : Gv w (w.alloc (.cells (en x) 39)) w.heap.size x g := ⟨heap_alloc_last w _, h.keep below1, below1⟩
theorem zi6 (b : Below w.heap.size w W) (h : LaidG W x g) : Gv w (W.alloc (.cells (en x) 39)) W.heap.size x g := ⟨heap_alloc_last W _, h.keep below1, zad b below1⟩
end
def EgOk (f : Eg) (b : Bool) (w : World) (e : Ending) (w' : World) : Prop := ∃ x : En, e = .returned (.tuple #[.agg (en x), .bool b]) ∧ LaidG w' x f ∧ Below w.heap.size w w'
def EgEr (f : Eg) (n : Nat) (w : World) (e : Ending) (w' : World) : Prop := ∃ x : En, e = .returned (.tuple #[.agg (en x), .int .i64 (n : Int)]) ∧ LaidG w' x f ∧ Below w.heap.size w w'
structure zbz (g : Eg) : Prop where
 t : g.t.length ≤ 1000
 bal : g.bal.length ≤ 1000
 v : g.v.l.length ≤ 1000
 w : g.w.length ≤ 1000
 late : g.late.length ≤ 1000
 k : g.k.length ≤ 1000
 j : g.j.length ≤ 1000
def zcd (kind : Int) (l : List UInt8) : Cmd :=
 if kind = 0 then (if isBY l = true then .block (zul l) else .form)
 else if kind = 1 then (if isAY l = true then .att (zzr l) else .form)
 else if kind = 2 then .tick else if kind = 3 then .prune else .other
def yag : Eg := ⟨[], [], ⟨[], 0⟩, [], [], [], [], zcc, 0⟩
def fewG (g : Eg) : Bool := decide (g.t.length ≤ 16) && (decide (g.bal.length ≤ 12) && (decide (g.v.l.length ≤ 12) && (decide (g.w.length ≤ 16) && (decide (g.late.length ≤ 10) && (decide (g.k.length ≤ 20) && decide (g.j.length ≤ 24))))))
theorem zev {g : Eg} (h : fewG g = true) : zbz g ∧ g.j.length ≤ 24 := by
 unfold fewG at h
 simp only [Bool.and_eq_true, decide_eq_true_iff] at h
 obtain ⟨h1, h2, h3, h4, h5, h6, h7⟩ := h
 exact ⟨⟨by omega, by omega, by omega, by omega, by omega, by omega, by omega⟩, h7⟩
theorem zck {α : Type} {E : Lie α} {w : World} {s : SlV} {l : List α} (h : SlE E w (sv s) l) : l.length = s.len := by
 obtain ⟨p', cap', e, _⟩ := zaj h
 unfold sv at e; injection e with _ e; exact e.symm
def bRt (v : Value) : Option Value :=
 match v with
 | .int .u8 n => some (.agg (zax (rc zr) 0 #[.int .u8 n]))
 | _ => none
@[go_sem] theorem yxz (n : Int) : bRt (.int .u8 n) = some (.agg (zax (rc zr) 0 #[.int .u8 n])) := rfl
@[go_sem ↓] theorem ype (ρ : Operand → Value) (dst : Option Tmp) (x : Operand) (ty : TypeId) (pos : String) (after : Array Edge) (guard : Option (Nat × Bool)) (w : World) :
  (execOp ρ { dst, op := .build 23 #[(0, x)], type := ty, pos, after, guard }).run Tryz.prog w = zhu (bRt (ρ x)) w (zbe Tryz.prog ρ { dst, op := .build 23 #[(0, x)], type := ty, pos, after, guard } w) := by
 cases h : bRt (ρ x) with
 | none => rfl
 | some v =>
  unfold bRt at h
  split at h
  ·
   rename_i n hx
   have hv := Option.some.inj h
   subst hv
   have hf : Instr.fill (fun i => some (i * 1, 1)) (rc zr) [(0, .int .u8 n)] = some (zax (rc zr) 0 #[.int .u8 n]) := by
    rw [z1c _ (rc zr) 0 (.int .u8 n) [] (0 * 1) 1 rfl rfl (by rw [zar]; omega)]
    rfl
   unfold execOp
   simp only [Instr.build, Sem.run_bind, znz, Result.andThen_ok, run_underlying Tryz.underlying23, Tryz.sizeOf5, List.map_toArray, List.map_cons, List.map_nil, hx, Value.cells, hf]
   rfl
  ·
   cases h
def r1 : Rt := zr.set 0 1
def r2 : Rt := zr.set 0 2
def r3 : Rt := zr.set 0 3
@[go_sem] theorem yyu : zax (rc zr) 0 #[.int .u8 1] = rc r1 := by kernel_rfl
@[go_sem] theorem yys : zax (rc zr) 0 #[.int .u8 2] = rc r2 := by kernel_rfl
end Go.Proofs.YtmihlihlpdkdcaaGreat
