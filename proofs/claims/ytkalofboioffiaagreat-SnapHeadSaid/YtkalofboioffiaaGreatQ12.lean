import Derived.Test.YtkalofboioffiaaGreatQ11
namespace Go.Proofs.YtkalofboioffiaaGreat
open Go.RowKit
set_option maxRecDepth 200000
set_option maxHeartbeats 64000000
def z2p (L : List Int) (w : World) (e : Ending) (w' : World) : Prop := ∃ v, e = .returned v ∧ OwnE Eint w' w.heap.size v L ∧ Below w.heap.size w w'
theorem yay {w : World} {b off : Nat} {a : List Int} (h : w.rangeAt b off (zaq Eint a)) {i : Nat} (hi : i < a.length) : w.cell? ⟨b, off + i, none⟩ = some (.int .i64 (a.getD i 0)) := by
 have := zpd h hi (j := 0) (v := .int .i64 a[i]) rfl
 rw [List.getD_eq_getElem?_getD, List.getElem?_eq_getElem hi]
 simpa [Eint] using this
theorem z3m {w : World} {p : Option Addr} {n cp : Nat} {a : List Int} (h : SlE Eint w (.slice p n cp) a) (h0 : 0 < a.length) : ∃ b o, p = some ⟨b, o, none⟩ ∧ b < w.heap.size ∧ w.rangeAt b o (zaq Eint a) := by
 obtain ⟨b, o, c, e, _, q, x⟩ := zdm h h0
 injection e with e1 e2 e3
 exact ⟨b, o, e1, q, x⟩
theorem zcn {w : World} {s : SlV} {l : List Nd} (h : SlE Ene w (sv s) l) : l.length = s.len := by
 obtain ⟨p', cap', e, _⟩ := zar h
 unfold sv at e; injection e with _ e; exact e.symm
theorem zjv {w : World} {b off : Nat} {l : List Nd} (h : w.rangeAt b off (zaq Ene l)) {i : Nat} (hi : i < l.length) : ldA w (.pointer (some ⟨b, off + i * 35, none⟩)) 35 = some (ne (nd l i)) := by
 have := zqb h hi
 rw [zqn l hi]
 exact this.trans (by rw [show (Ene.enc l[i]).toArray = ne l[i] from Array.toList_inj.1 (by rw [zm2]; rfl)])
theorem zoq {w : World} {b off : Nat} {l : List Nd} (h : w.rangeAt b off (zaq Ene l)) {i : Nat} (hi : i < l.length) : ldA w (.pointer (some ⟨b, off + i * 35, none⟩)) 32 = some (rc (nd l i).root) := by
 have := zth (zje h hi)
 rw [zqn l hi]
 exact this
theorem zqo {w : World} {b off : Nat} {l : List Nd} (h : w.rangeAt b off (zaq Ene l)) {i : Nat} (hi : i < l.length) : w.cell? ⟨b, off + i * 35 + 32, none⟩ = some (.int .i64 (nd l i).parent) := by
 have := znu (zje h hi)
 rw [zqn l hi]
 exact this
theorem zgh {w : World} {b off : Nat} {l : List Nd} (h : w.rangeAt b off (zaq Ene l)) {i : Nat} (hi : i < l.length) : w.cell? ⟨b, off + i * 35 + 33, none⟩ = some (.int .u64 ((nd l i).slot.toNat : Int)) := by
 have := zti (zje h hi)
 rw [zqn l hi]
 exact this
theorem zor {w : World} {g : Nat} {x : Nd} (h : w.heap[g]? = some (.cells (ne x) 63 (0, 0))) : ldA w (.pointer (some ⟨g, 0, none⟩)) 32 = some (rc x.root) ∧ w.cell? ⟨g, 32, none⟩ = some (.int .i64 x.parent) ∧ w.cell? ⟨g, 33, none⟩ = some (.int .u64 (x.slot.toNat : Int)) ∧ w.cell? ⟨g, 34, none⟩ = some (.int .u64 (x.just.toNat : Int)) ∧ ldA w (.pointer (some ⟨g, 0, none⟩)) 35 = some (ne x) ∧ g < w.heap.size :=
 ⟨zkl h, zvk h, z09 h, zqu h, zag h (zm3 x), (Array.getElem?_eq_some_iff.1 h).1⟩
theorem zaw {w : World} {g : Nat} {x : Tr} (h : w.heap[g]? = some (.cells (tr x) 24 (0, 0))) : w.cell? ⟨g, 0, none⟩ = some (sv x.n) ∧ ldA w (.pointer (some ⟨g, 0, none⟩)) 1 = some (tr x) ∧ g < w.heap.size :=
 ⟨yim h, zag h (za9 x), (Array.getElem?_eq_some_iff.1 h).1⟩
theorem yju {l k : List Nd} (hl : l.length = k.length) (h : ∀ i, i < k.length → nd l i = nd k i) : l = k := by
 refine List.ext_getElem hl fun i h1 h2 => ?_
 have := h i h2
 rwa [zqn l h1, zqn k h2] at this
theorem zda {w : World} {p : Option Addr} {n cp : Nat} {l : List Nd} (h : SlE Ene w (.slice p n cp) l) (h0 : 0 < l.length) : ∃ b o, p = some ⟨b, o, none⟩ ∧ b < w.heap.size ∧ w.rangeAt b o (zaq Ene l) := by
 obtain ⟨b, o, c, e, _, q, x⟩ := zdm h h0
 injection e with e1 e2 e3
 exact ⟨b, o, e1, q, x⟩
theorem yq9 {w : World} {g : Nat} {x : Tr} (h : w.heap[g]? = some (.cells (tr x) 24 (0, 0))) (p : Wd w.drew) : ldA p.w (.pointer (some ⟨g, 0, none⟩)) 1 = some (tr x) := yjl (show ldA w.drew _ 1 = _ by rw [zu9]; exact zag h (za9 _)) (by decide) p
def zev (l : List Nd) (i j : Nat) : List Int := ((List.range j).filter fun k => decide ((nd l k).parent = (i : Int))).map fun k : Nat => (k : Int)
theorem z56 {l : List Nd} {i j : Nat} (h : (nd l j).parent = (i : Int)) : zev l i (j + 1) = zev l i j ++ [(j : Int)] := by
 unfold zev
 rw [List.range_succ, List.filter_append, List.map_append]
 simp [h]
theorem ya1 {l : List Nd} {i j : Nat} (h : (nd l j).parent ≠ (i : Int)) : zev l i (j + 1) = zev l i j := by
 unfold zev
 rw [List.range_succ, List.filter_append, List.map_append]
 simp [h]
theorem z54 (l : List Nd) (i j : Nat) : (zev l i j).length ≤ j := by
 unfold zev
 rw [List.length_map]
 have := List.length_filter_le (fun k => decide ((nd l k).parent = (i : Int))) (List.range j)
 rwa [List.length_range] at this
def zkf (l : List Nd) (i : Int) : List Int := (z57 l i).map fun k : Nat => (k : Int)
theorem zxv {l : List Nd} (h : MayT l) {i : Nat} (hi : i < l.length) : zkf l (i : Int) = zev l i l.length := by
 unfold zkf
 rw [zp8 h hi]
 rfl
theorem ya0 {l : List Nd} {i : Int} (h : isT l i = false) : zkf l i = [] := by
 unfold zkf z57
 rw [h]
 rfl
open Go.RowKit
theorem yg8 {w : World} {b off : Nat} {l : List Nd} (h : w.rangeAt b off (zaq Ene l)) {i : Nat} (hi : i < l.length) : w.cell? ⟨b, off + i * 35 + 34, none⟩ = some (.int .u64 ((nd l i).just.toNat : Int)) := by
 have := ztg (zje h hi)
 rw [zqn l hi]
 exact this
section
variable {l : List Nd}
def zgl (p : Nat → Bool) (j : Nat) : List Bool := (List.range j).map p
theorem zpb (p : Nat → Bool) (j : Nat) : (zgl p j).length = j := by unfold zgl; simp
theorem zqd (h : MayT l) {just : Nat} {fin : Int} : z3s l just fin = zgl (zr4 l just fin) l.length := if_pos h
theorem ygp (h : ¬ MayT l) {just : Nat} {fin : Int} : z3s l just fin = [] := if_neg h
theorem z2z {p : Nat → Bool} {n i : Nat} (hi : i < n) : bn (zgl p n) i = p i := by
 rw [yo8 (by rw [zpb]; exact hi)]
 unfold zgl
 simp
end
structure Sg where
 ver : Int
 t : List Nd
 head : Rt
 just : Ck
 fin : Ck
theorem Sg.ext {x y : Sg} (h0 : x.ver = y.ver) (h1 : x.t = y.t) (h2 : x.head = y.head) (h3 : x.just = y.just) (h4 : x.fin = y.fin) : x = y := by cases x; cases y; simp_all
instance : DecidableEq Sg := fun x y => decidable_of_iff (x.ver = y.ver ∧ x.t = y.t ∧ x.head = y.head ∧ x.just = y.just ∧ x.fin = y.fin) ⟨fun h => Sg.ext h.1 h.2.1 h.2.2.1 h.2.2.2.1 h.2.2.2.2, fun h => by subst h; exact ⟨rfl, rfl, rfl, rfl, rfl⟩⟩
structure Rg where
 e : Nat
 r : Rt
 is : Bool
 c : Ck
def zRg : Rg := ⟨0, zr, false, zcc⟩
def zgz (e : Eg) : Int := zal e.t e.fin.root
def zd9 (e : Eg) : Ck := zjz e.t e.j e.fin
def zli (e : Eg) : List Bool := z3s e.t (zd9 e).epoch.toNat (zgz e)
def z5x (e : Eg) : Int := yam e.t (zd9 e).root (zgz e)
def zr0 (e : Eg) : Int := zxr e.t e.w (zli e) (z5x e)
def zSg : Sg := ⟨0, [], zr, zcc, zcc⟩
def ofE (e : Eg) (ver : Int) : Sg := if mayG e = true then ⟨ver, e.t, (nd e.t (zr0 e).toNat).root, zd9 e, e.fin⟩ else zSg
def mayN (s : Sg) : Bool := zb0 s.t (zal s.t s.fin.root) (zal s.t s.head) && zb0 s.t (zal s.t s.fin.root) (zal s.t s.just.root)
def askN (s : Sg) (kind : Int) (a b : Rt) (slot : Nat) : Rg :=
 if mayN s = true then
  (if kind = 5 then { zRg with r := s.head } else if kind = 8 then { zRg with c := s.fin }
   else if kind = 6 then (if zal s.t a < 0 then { zRg with e := 5 } else if atZ s.t (zal s.t a) slot < 0 then { zRg with e := 8 } else { zRg with r := (nd s.t (atZ s.t (zal s.t a) slot).toNat).root })
   else if kind = 7 then (if zal s.t a < 0 ∨ zal s.t b < 0 then { zRg with e := 5 } else { zRg with is := zb0 s.t (zal s.t a) (zal s.t b) })
   else { zRg with e := 1 })
 else { zRg with e := 1 }
section
variable {e : Eg}
theorem zgo (h : MayS' e) (ver : Int) : ofE e ver = ⟨ver, e.t, (nd e.t (zr0 e).toNat).root, zd9 e, e.fin⟩ := by unfold ofE; rw [if_pos (zhx.2 h)]
theorem zop {s : Sg} : mayN s = true ↔ zb0 s.t (zal s.t s.fin.root) (zal s.t s.head) = true ∧ zb0 s.t (zal s.t s.fin.root) (zal s.t s.just.root) = true := by unfold mayN; rw [Bool.and_eq_true]
theorem ymd (h : MayS' e) : ∃ i k : Nat, i < e.t.length ∧ k < e.t.length ∧ zgz e = i ∧ zal e.t (zd9 e).root = k ∧ (nd e.t k).root = (zd9 e).root ∧ (nd e.t i).root = e.fin.root ∧ zao e.t i k = true ∧ z5x e = k := by
 obtain ⟨i, hi, e1, e2, _⟩ := zxm h
 have hk : ∃ k : Nat, k < e.t.length ∧ zal e.t (zd9 e).root = k ∧ zao e.t i k = true := by
  rcases (ygn (l := e.t) (js := e.j) (fin := e.fin)).1 with q | ⟨_, q, _⟩
  ·
   exact ⟨i, hi, by show zal e.t (zjz e.t e.j e.fin).root = _; rw [q]; exact e1, zb8 h.t hi⟩
  ·
   obtain ⟨a, b, _, f1, f2, ha, hb, hab⟩ := zf6 q
   rw [e1] at f1
   obtain rfl : i = a := by omega
   exact ⟨b, hb, f2, hab⟩
 obtain ⟨k, hk, f, hab⟩ := hk
 have hr : (nd e.t k).root = (zd9 e).root := by
  rcases zck h.t (zd9 e).root with ⟨m, _, g1, g2⟩ | ⟨g1, _⟩
  ·
   obtain rfl : k = m := by omega
   exact g2
  ·
   omega
 refine ⟨i, k, hi, hk, e1, f, hr, e2, hab, ?_⟩
 unfold z5x zgz
 rw [e1]
 unfold yam
 rw [if_pos (zhh h.t hi), f, if_pos (by rw [zb6 h.t hi hk]; exact hab)]
theorem ya6 (h : MayS' e) : znh e.t e.w (zli e) = true := zl5.2 ⟨h.t, by rw [h.w, zrp h.fit], by unfold zli; rw [zqd h.t, zpb]⟩
theorem zva (h : MayS' e) {m : Nat} (hm : m < e.t.length) : bn (zli e) m = zr4 e.t (zd9 e).epoch.toNat (zgz e) m := by unfold zli; rw [zqd h.t, z2z hm]
theorem zuz (h : MayS' e) : ∃ i k m : Nat, i < e.t.length ∧ k < e.t.length ∧ m < e.t.length ∧ zgz e = i ∧ zal e.t (zd9 e).root = k ∧ (nd e.t k).root = (zd9 e).root ∧ (nd e.t i).root = e.fin.root ∧ zao e.t i k = true ∧ zao e.t k m = true ∧ z5x e = k ∧ zr0 e = m ∧ m = zn6 e.t e.w (zli e) k := by
 obtain ⟨i, k, hi, hk, e1, e2, e3, e4, e5, e6⟩ := ymd h
 obtain ⟨w1, w2, _⟩ := ymm (w := e.w) (b := zli e) h.t hk
 refine ⟨i, k, _, hi, hk, w1, e1, e2, e3, e4, e5, w2, e6, ?_, rfl⟩
 unfold zr0
 rw [e6, yar (ya6 h) hk]
theorem zy3 (h : MayS' e) {m : Nat} (hm : m < e.t.length) : zal e.t (nd e.t m).root = m := zeh h.t hm
theorem zew (h : MayS' e) (ver : Int) : mayN (ofE e ver) = true ∧ (ofE e ver).ver = ver ∧ (ofE e ver).fin = e.fin ∧ (ofE e ver).t = e.t ∧ ∃ m : Nat, zal e.t (ofE e ver).head = m ∧ m < e.t.length ∧
  ((zjn e.t m = [] ∧ (ofE e ver).just.epoch.toNat ≤ (nd e.t m).just.toNat) ∨ (ofE e ver).head = (ofE e ver).just.root) := by
 obtain ⟨i, k, m, hi, hk, hm, e1, e2, e3, e4, e5, e6, e7, e8, e9⟩ := zuz h
 have ho := zgo h ver
 have hhead : (ofE e ver).head = (nd e.t m).root := by rw [ho]; show (nd e.t (zr0 e).toNat).root = _; rw [e8]; rfl
 rw [ho] at hhead ⊢
 refine ⟨zop.2 ?_, rfl, rfl, rfl, m, by rw [hhead]; exact zy3 h hm, hm, ?_⟩
 ·
  rw [hhead]
  show zb0 e.t (zal e.t e.fin.root) (zal e.t (nd e.t m).root) = true ∧ zb0 e.t (zal e.t e.fin.root) (zal e.t (zd9 e).root) = true
  have e1' : zal e.t e.fin.root = i := e1
  rw [e1', zy3 h hm, e2, zb6 h.t hi hm, zb6 h.t hi hk]
  exact ⟨zcr h.t e5 m hm e6, e5⟩
 ·
  by_cases hmk : m = k
  ·
   refine .inr ?_
   rw [hhead, hmk]
   exact e3
  ·
   refine .inl ?_
   obtain ⟨_, _, b1, b2⟩ := z3q (w := fn e.w) (leads := bn (zli e)) ltS h.t (e.t.length - k) k rfl hk
   have hb2 := b2 (by show zn6 e.t e.w (zli e) k ≠ k; rw [← e9]; exact hmk)
   have e9' : zik e.t zbz (fn e.w) (bn (zli e)) k = m := e9.symm
   rw [e9'] at b1 hb2
   rw [zva h hm] at hb2
   obtain ⟨q, hq, hq1, hq2⟩ := zlj.1 hb2
   have hnone := zw1 ltS b1
   have hkid : zjn e.t m = [] := by
    refine Classical.byContradiction fun hne => ?_
    have hqm : q ≠ m := by
     rintro rfl
     exact hne ((zoo h.t hq).1 hq2).2.1
    obtain ⟨c, hc, hca⟩ := zww h.t q hq hq1 hqm
    obtain ⟨hcl, hcp⟩ := zes.1 hc
    have := hnone c hcl hcp
    rw [zva h hcl] at this
    rw [zlj.2 ⟨q, hq, hca, hq2⟩] at this
    cases this
   have hqm : q = m := by
    refine Classical.byContradiction fun hne => ?_
    obtain ⟨c, hc, _⟩ := zww h.t q hq hq1 hne
    rw [hkid] at hc
    cases hc
   subst hqm
   exact ⟨hkid, ((zoo h.t hq).1 hq2).2.2⟩
end
section
variable {l : List Nd} {i : Nat}
theorem zgu (h : MayT l) {m x : Nat} (hm : zbw l i m = true) (hx : zbw l i x = true) : (nd (cutL l i) (zbo l i x)).parent = (zbo l i m : Int) ↔ x ≠ i ∧ (nd l x).parent = (m : Int) := by
 rw [zpg hx]
 show (if x = i then (-1 : Int) else (zbo l i (up l x) : Int)) = _ ↔ _
 by_cases e : x = i
 ·
  rw [if_pos e]
  exact ⟨fun h => by omega, fun h => absurd e h.1⟩
 ·
  rw [if_neg e]
  obtain ⟨h0, hu, _, _⟩ := zp7 h hx e
  have hp := (h.par h0 (zaz.1 hx).1).1
  constructor
  ·
   intro h1
   refine ⟨e, ?_⟩
   have : zbo l i (up l x) = zbo l i m := by omega
   rw [hp, zou _ hu hm this]
  ·
   rintro ⟨_, h1⟩
   rw [hp] at h1
   have : up l x = m := by omega
   rw [this]
theorem z3p (h : MayT l) {m x : Nat} (hm : zbw l i m = true) (hx : x < l.length) (hp : (nd l x).parent = (m : Int)) : zbw l i x = true ∧ x ≠ i := by
 have hk : x ∈ zjn l m := zes.2 ⟨hx, hp⟩
 have h1 := zxu h hk
 obtain ⟨h2, _⟩ := zu3 h hk
 have h3 := zke h hm
 exact ⟨zaz.2 ⟨hx, zcr h (zaz.1 hm).2 x hx h1⟩, by omega⟩
theorem yfs (h : MayT l) {m : Nat} (hm : zbw l i m = true) : zjn (cutL l i) (zbo l i m) = [] ↔ zjn l m = [] := by
 constructor
 ·
  intro e
  refine List.eq_nil_iff_forall_not_mem.2 fun x hx => ?_
  obtain ⟨hxl, hp⟩ := zes.1 hx
  obtain ⟨hk, hne⟩ := z3p h hm hxl hp
  have : zbo l i x ∈ zjn (cutL l i) (zbo l i m) := zes.2 ⟨zc0 hk, (zgu h hm hk).2 ⟨hne, hp⟩⟩
  rw [e] at this
  cases this
 ·
  intro e
  refine List.eq_nil_iff_forall_not_mem.2 fun y hy => ?_
  obtain ⟨hyl, hp⟩ := zes.1 hy
  obtain ⟨x, hx, rfl⟩ := zh9 hyl
  obtain ⟨_, hp'⟩ := (zgu h hm hx).1 hp
  have : x ∈ zjn l m := zes.2 ⟨(zaz.1 hx).1, hp'⟩
  rw [e] at this
  cases this
variable {w w' : Nat → Nat} {leads leads' : Nat → Bool}
theorem yfq (h : MayT l) (hi : i < l.length) (hw : ∀ x, zbw l i x = true → w' (zbo l i x) = w x) (hl : ∀ x, zbw l i x = true → leads' (zbo l i x) = leads x) {m : Nat} (hm : zbw l i m = true) :
  ze1 (cutL l i) zbz w' leads' (zbo l i m) = (ze1 l zbz w leads m).map (zbo l i) := by
 cases e : ze1 l zbz w leads m with
 | none =>
  refine yeu ltS fun y hy hp => ?_
  obtain ⟨x, hx, rfl⟩ := zh9 hy
  obtain ⟨_, hp'⟩ := (zgu h hm hx).1 hp
  rw [hl x hx]
  exact zw1 ltS e x (zaz.1 hx).1 hp'
 | some b =>
  obtain ⟨h1, h2, h3, h4⟩ := zh6 ltS e
  obtain ⟨hk, hne⟩ := z3p h hm h1 h2
  refine ykw ltS (zee h hi) (zc0 hk) ?_ fun y hy hc => ?_
  ·
   unfold zdx
   rw [decide_eq_true ((zgu h hm hk).2 ⟨hne, h2⟩), Bool.true_and, hl b hk]
   exact h3
  ·
   obtain ⟨x, hx, rfl⟩ := zh9 hy
   unfold zdx at hc
   rw [Bool.and_eq_true, decide_eq_true_iff, hl x hx] at hc
   obtain ⟨_, hp'⟩ := (zgu h hm hx).1 hc.1
   have := h4 x (zaz.1 hx).1 hp' hc.2
   unfold zch at this ⊢
   rw [hw x hx, hw b hk, zdd hx, zdd hk]
   exact this
theorem yfr (h : MayT l) (hi : i < l.length) (hw : ∀ x, zbw l i x = true → w' (zbo l i x) = w x) (hl : ∀ x, zbw l i x = true → leads' (zbo l i x) = leads x) : ∀ (d m : Nat), l.length - m = d → zbw l i m = true → zik (cutL l i) zbz w' leads' (zbo l i m) = zbo l i (zik l zbz w leads m) := by
 intro d
 induction d using Nat.strongRecOn with
 | _ d ih =>
  intro m hd hm
  have hb := yfq h hi hw hl hm
  cases e : ze1 l zbz w leads m with
  | none =>
   rw [e] at hb
   rw [zp2 e, zp2 hb]
  | some k =>
   rw [e] at hb
   obtain ⟨h1, h2, h3⟩ := zmk ltS h e
   have hk : zbw l i k = true := zaz.2 ⟨h2, zcr h (zaz.1 hm).2 k h2 h3⟩
   rw [zld ltS h e, zld ltS (zee h hi) hb]
   exact ih (l.length - k) (by omega) k rfl hk
theorem z25 (h : MayT l) (hi : i < l.length) {just m : Nat} (hm : zbw l i m = true) : zki (cutL l i) just 0 (zbo l i m : Int) = zki l just (i : Int) (m : Int) := by
 have hc := zee h hi
 obtain ⟨hml, hma⟩ := zaz.1 hm
 rw [Bool.eq_iff_iff, zoo hc (zc0 hm), zoo h hml, yfs h hm]
 have h0 : zb0 (cutL l i) 0 (zbo l i m : Int) = true := by
  rw [show (0 : Int) = ((0 : Nat) : Int) from rfl, zb6 hc hc.pos (zc0 hm)]
  exact zo4 hc _ (zc0 hm)
 have h1 : zb0 l (i : Int) (m : Int) = true := by rw [zb6 h hi hml]; exact hma
 have h2 : (nd (cutL l i) (zbo l i m)).just = (nd l m).just := by rw [zpg hm]; rfl
 rw [h0, h1, h2]
theorem yft (h : MayT l) (hi : i < l.length) {just m : Nat} (hm : zbw l i m = true) : zr4 (cutL l i) just 0 (zbo l i m) = zr4 l just (i : Int) m := by
 rw [Bool.eq_iff_iff, zlj, zlj]
 constructor
 ·
  rintro ⟨y, hy, ha, hf⟩
  obtain ⟨x, hx, rfl⟩ := zh9 hy
  rw [zgt h hi hm x hx] at ha
  rw [z25 h hi hx] at hf
  exact ⟨x, (zaz.1 hx).1, ha, hf⟩
 ·
  rintro ⟨x, hx, ha, hf⟩
  have hk : zbw l i x = true := zaz.2 ⟨hx, zcr h (zaz.1 hm).2 x hx ha⟩
  exact ⟨zbo l i x, zc0 hk, by rw [zgt h hi hm x hk]; exact ha, by rw [z25 h hi hk]; exact hf⟩
end
section
variable {e : Eg}
theorem z7y (h : MayS' e) (ver : Int) : ∃ i m : Nat, i < e.t.length ∧ zgz e = i ∧ zbw e.t i m = true ∧ zr0 e = m ∧ (prG e).t = cutL e.t i ∧ zr0 (prG e) = zbo e.t i m ∧ zd9 (prG e) = zd9 e ∧ (prG e).fin = e.fin ∧
  (ofE e ver).head = (nd e.t m).root ∧ (ofE (prG e) ver).head = (nd e.t m).root := by
 have hg := pr_G h
 obtain ⟨i, k, m, hi, hk, hm, e1, e2, e3, e4, e5, e6, e7, e8, e9⟩ := zuz h
 obtain ⟨i2, k2, m2, hi2, hk2, hm2, d1, d2, d3, d4, d5, d6, d7, d8, d9⟩ := zuz hg
 obtain ⟨i3, hi3, c1, c2, c3⟩ := zxm h
 have hi3' : i3 = i := by have : zgz e = i3 := c1; omega
 subst hi3'
 obtain ⟨_, r2⟩ := yhk h
 have ht : (prG e).t = cutL e.t i3 := by rw [r2]; exact c3
 have hfin : (prG e).fin = e.fin := by rw [r2]
 have hjust : zd9 (prG e) = zd9 e := ynh h
 have hkk : zbw e.t i3 k = true := zaz.2 ⟨hk, e5⟩
 have hkm : zbw e.t i3 m = true := zaz.2 ⟨hm, zcr h.t e5 m hm e6⟩
 have hpl : zgz (prG e) = 0 := by
  unfold zgz
  rw [ht, hfin, ← c2, zfs h.t hi (zfv h.t hi), zc8 h.t i3]
  rfl
 have hk2' : k2 = zbo e.t i3 k := by
  rw [ht, hjust, ← e3, zfs h.t hi hkk] at d2
  omega
 have hwt : ∀ x, zbw e.t i3 x = true → fn (prG e).w (zbo e.t i3 x) = fn e.w x := fun x hx => by
  obtain ⟨j, hj, j1, hlaw⟩ := zxw h (s := 0) (zaz.1 hx).1 (zaz.1 hx).1
  have hji : j = i3 := by omega
  subst hji
  rcases hlaw with ⟨_, q⟩ | ⟨y, q1, _, _, q2, _⟩
  ·
   rw [(zaz.1 hx).2] at q; cases q
  ·
   rw [ht, zfs h.t hi hx] at q1
   have : y = zbo e.t j x := by omega
   rw [← this]; exact q2
 have hld : ∀ x, zbw e.t i3 x = true → bn (zli (prG e)) (zbo e.t i3 x) = bn (zli e) x := fun x hx => by
  rw [zva hg (by rw [ht]; exact zc0 hx), zva h (zaz.1 hx).1, hpl, ht, hjust, e1]
  exact yft h.t hi hx
 have hm2' : m2 = zbo e.t i3 m := by
  rw [d9, e9, hk2']
  unfold zn6
  rw [ht]
  exact yfr h.t hi hwt hld _ k rfl hkk
 have ho := zgo h ver
 have ho2 := zgo hg ver
 refine ⟨i3, m, hi, e1, hkm, e8, ht, by rw [d8, hm2'], hjust, hfin, by rw [ho, e8]; rfl, ?_⟩
 rw [ho2]
 show (nd (prG e).t (zr0 (prG e)).toNat).root = _
 rw [d8, hm2', ht]
 exact zdd hkm
theorem zmh {s : Sg} (h : mayN s = true) (kind : Int) (a b : Rt) (slot : Nat) : askN s kind a b slot =
  (if kind = 5 then { zRg with r := s.head } else if kind = 8 then { zRg with c := s.fin }
   else if kind = 6 then (if zal s.t a < 0 then { zRg with e := 5 } else if atZ s.t (zal s.t a) slot < 0 then { zRg with e := 8 } else { zRg with r := (nd s.t (atZ s.t (zal s.t a) slot).toNat).root })
   else if kind = 7 then (if zal s.t a < 0 ∨ zal s.t b < 0 then { zRg with e := 5 } else { zRg with is := zb0 s.t (zal s.t a) (zal s.t b) })
   else { zRg with e := 1 }) := by unfold askN; rw [if_pos h]
theorem z2t {s t : Sg} (hs : mayN s = true) (ht : mayN t = true) {kind : Int} {a b : Rt} {slot : Nat} (h5 : kind = 5 → s.head = t.head) (h8 : s.fin = t.fin)
  (h6 : kind = 6 → (zal s.t a < 0 ∧ zal t.t a < 0) ∨ (0 ≤ zal s.t a ∧ 0 ≤ zal t.t a ∧ ((atZ s.t (zal s.t a) slot < 0 ∧ atZ t.t (zal t.t a) slot < 0) ∨ (0 ≤ atZ s.t (zal s.t a) slot ∧ 0 ≤ atZ t.t (zal t.t a) slot ∧ (nd s.t (atZ s.t (zal s.t a) slot).toNat).root = (nd t.t (atZ t.t (zal t.t a) slot).toNat).root))))
  (h7 : kind = 7 → ((zal s.t a < 0 ∨ zal s.t b < 0) ∧ (zal t.t a < 0 ∨ zal t.t b < 0)) ∨ ((0 ≤ zal s.t a ∧ 0 ≤ zal s.t b) ∧ (0 ≤ zal t.t a ∧ 0 ≤ zal t.t b) ∧ zb0 s.t (zal s.t a) (zal s.t b) = zb0 t.t (zal t.t a) (zal t.t b))) : askN s kind a b slot = askN t kind a b slot := by
 rw [zmh hs, zmh ht]
 by_cases k5 : kind = 5
 ·
  rw [if_pos k5, if_pos k5, h5 k5]
 ·
  rw [if_neg k5, if_neg k5, h8]
  by_cases k8 : kind = 8
  ·
   rw [if_pos k8, if_pos k8]
  ·
   rw [if_neg k8, if_neg k8]
   by_cases k6 : kind = 6
   ·
    rw [if_pos k6, if_pos k6]
    rcases h6 k6 with ⟨q1, q2⟩ | ⟨q1, q2, q3⟩
    ·
     rw [if_pos q1, if_pos q2]
    ·
     rw [if_neg (show ¬ zal s.t a < 0 by omega), if_neg (show ¬ zal t.t a < 0 by omega)]
     rcases q3 with ⟨r1, r2⟩ | ⟨r1, r2, r3⟩
     ·
      rw [if_pos r1, if_pos r2]
     ·
      rw [if_neg (show ¬ atZ s.t (zal s.t a) slot < 0 by omega), if_neg (show ¬ atZ t.t (zal t.t a) slot < 0 by omega), r3]
   ·
    rw [if_neg k6, if_neg k6]
    by_cases k7 : kind = 7
    ·
     rw [if_pos k7, if_pos k7]
     rcases h7 k7 with ⟨q1, q2⟩ | ⟨q1, q2, q3⟩
     ·
      rw [if_pos q1, if_pos q2]
     ·
      rw [if_neg (show ¬ (zal s.t a < 0 ∨ zal s.t b < 0) by omega), if_neg (show ¬ (zal t.t a < 0 ∨ zal t.t b < 0) by omega), q3]
    ·
     rw [if_neg k7, if_neg k7]
theorem zu7 (h : MayS' e) (ver : Int) : (ofE e ver).head = (ofE (prG e) ver).head ∧ (ofE e ver).fin = (ofE (prG e) ver).fin ∧ (ofE e ver).just = (ofE (prG e) ver).just ∧ (ofE e ver).t = e.t ∧ (ofE (prG e) ver).t = (prG e).t ∧ ∃ i : Nat, i < e.t.length ∧ zal e.t (ofE e ver).fin.root = i ∧
  ∀ (kind : Int) (a b : Rt) (slot : Nat), ¬ (kind = 6 ∧ (zal (prG e).t a < 0 ∨ slot < sl e.t i) ∨ kind = 7 ∧ (zal (prG e).t a < 0 ∨ zal (prG e).t b < 0)) → askN (ofE e ver) kind a b slot = askN (ofE (prG e) ver) kind a b slot := by
 have hg := pr_G h
 obtain ⟨i, m, hi, e1, hkm, e2, ht, e3, e4, e5, e6, e7⟩ := z7y h ver
 have ho := zgo h ver
 have ho2 := zgo hg ver
 have hf1 : (ofE e ver).fin = e.fin := by rw [ho]
 have hf2 : (ofE (prG e) ver).fin = e.fin := by rw [ho2]; exact e5
 have ht1 : (ofE e ver).t = e.t := by rw [ho]
 have ht2 : (ofE (prG e) ver).t = (prG e).t := by rw [ho2]
 refine ⟨by rw [e6, e7], by rw [hf1, hf2], by rw [ho, ho2]; exact e4.symm, ht1, ht2, i, hi, by rw [hf1]; exact e1, fun kind a b slot hno => ?_⟩
 have hplace : ∀ r, 0 ≤ zal (prG e).t r → ∃ x, zbw e.t i x = true ∧ zal e.t r = (x : Int) ∧ zal (prG e).t r = (zbo e.t i x : Int) := fun r hr => by
  rw [ht] at hr ⊢
  obtain ⟨x, hx, rfl⟩ := (zj8 h.t hi).1 (zhg.2 hr)
  exact ⟨x, hx, zeh h.t (zaz.1 hx).1, zfs h.t hi hx⟩
 refine z2t (zew h ver).1 (zew hg ver).1 (fun _ => by rw [e6, e7]) (by rw [hf1, hf2]) (fun k6 => ?_) (fun k7 => ?_)
 ·
  rw [ht1, ht2]
  have h1 : ¬ zal (prG e).t a < 0 := fun q => hno (.inl ⟨k6, .inl q⟩)
  have h2 : ¬ slot < sl e.t i := fun q => hno (.inl ⟨k6, .inr q⟩)
  obtain ⟨x, hx, f1, f2⟩ := hplace a (by omega)
  obtain ⟨q, hq, hkq⟩ := z8z h.t hx (s := slot) (by omega)
  refine .inr ⟨by omega, by omega, .inr ?_⟩
  rw [f1, f2, zjy h.t (zaz.1 hx).1, ht, zjy (zee h.t hi) (zc0 hx), yje h.t hi slot x hx, if_pos (by omega), hq]
  have hqn : ((q : Int)).toNat = q := by omega
  rw [hqn]
  refine ⟨by omega, by omega, ?_⟩
  have hrn : ((zbo e.t i q : Nat) : Int).toNat = zbo e.t i q := by omega
  rw [hrn, zdd hkq]
 ·
  rw [ht1, ht2]
  have h1 : ¬ zal (prG e).t a < 0 := fun q => hno (.inr ⟨k7, .inl q⟩)
  have h2 : ¬ zal (prG e).t b < 0 := fun q => hno (.inr ⟨k7, .inr q⟩)
  obtain ⟨x, hx, f1, f2⟩ := hplace a (by omega)
  obtain ⟨y, hy, g1, g2⟩ := hplace b (by omega)
  refine .inr ⟨⟨by omega, by omega⟩, ⟨by omega, by omega⟩, ?_⟩
  rw [f1, f2, g1, g2, zb6 h.t (zaz.1 hx).1 (zaz.1 hy).1, ht, zb6 (zee h.t hi) (zc0 hx) (zc0 hy), zgt h.t hi hx y hy]
theorem yc6 {l : List Nd} (x : Nd) {i : Nat} (h : i < l.length) : sl (l ++ [x]) i = sl l i := by unfold sl; rw [zd3 x h]
theorem ykt {l : List Nd} {x : Nd} (h : MayT l) (h' : MayT (l ++ [x])) (s : Nat) : ∀ k, k < l.length → atT (l ++ [x]) k s = atT l k s := by
 intro k
 induction k using Nat.strongRecOn with
 | _ k ih =>
  intro hk
  have hk' : k < (l ++ [x]).length := by simp; omega
  by_cases h0 : k = 0
  ·
   subst h0
   rw [zmi, zmi, yc6 x hk]
  ·
   have hp := Nat.pos_of_ne_zero h0
   rw [zwy h' s hp hk', zwy h s hp hk, yc6 x hk, yds x hk]
   obtain ⟨_, hu, _⟩ := h.par hp hk
   rw [ih _ hu (by omega)]
theorem z42 (lt : Rt → Rt → Bool) {ok ok' : Ck → Bool} {cs : List Ck} {o : Ck} (h : ∀ c, c ∈ cs → ok' c = ok c) : zeb lt ok' cs o = zeb lt ok cs o := by
 have := zg8 lt (ok := ok) (ok' := ok') (p := fun _ => true) cs o (fun c hc _ => h c hc) (fun c _ hp => by cases hp)
 rwa [List.filter_eq_self.2 (fun _ _ => rfl)] at this
theorem zu6 {b : Bk} (h : MayS' e) (he : ze9 e b = 0) (ver : Int) : (ofE e ver).fin = (ofE (blkG e b) ver).fin ∧ (ofE e ver).just = (ofE (blkG e b) ver).just ∧
  ∀ (kind : Int) (a c : Rt) (slot : Nat), ¬ (kind = 5 ∨ a = b.root ∨ c = b.root) → askN (ofE e ver) kind a c slot = askN (ofE (blkG e b) ver) kind a c slot := by
 obtain ⟨_, _, h3, _⟩ := zs2 he
 have hg := yo7 h b
 have h' := zu2 b.just h3
 have hL : insL e.t b.root b.parent b.slot b.just = e.t ++ [insN e.t b.root b.parent b.slot b.just] := by unfold insL; rw [if_pos h3]
 have hb : blkG e b = { e with t := e.t ++ [insN e.t b.root b.parent b.slot b.just], w := e.w ++ [0] } := by unfold blkG; rw [if_pos he, hL]
 have ht : (blkG e b).t = e.t ++ [insN e.t b.root b.parent b.slot b.just] := by rw [hb]
 have hfin : (blkG e b).fin = e.fin := by rw [hb]
 have hj : (blkG e b).j = e.j := by rw [hb]
 have hroot : (insN e.t b.root b.parent b.slot b.just).root = b.root := rfl
 generalize insN e.t b.root b.parent b.slot b.just = x at *
 have ag := zsh h.t h'
 have hjust : zd9 (blkG e b) = zd9 e := by
  unfold zd9 zjz
  rw [ht, hfin, hj]
  exact z42 zbz fun c hc => (ag c e.fin (h.inJ c hc) (h.inJ _ h.fin)).symm
 have ho := zgo h ver
 have ho2 := zgo hg ver
 have hf1 : (ofE e ver).fin = e.fin := by rw [ho]
 have hf2 : (ofE (blkG e b) ver).fin = e.fin := by rw [ho2]; exact hfin
 have ht1 : (ofE e ver).t = e.t := by rw [ho]
 have ht2 : (ofE (blkG e b) ver).t = e.t ++ [x] := by rw [ho2]; exact ht
 refine ⟨by rw [hf1, hf2], by rw [ho, ho2]; exact hjust.symm, fun kind a c slot hno => ?_⟩
 have hplace : ∀ r, r ≠ b.root → zal (e.t ++ [x]) r = zal e.t r := fun r hr => by
  by_cases hin : inT e.t r = true
  ·
   exact zig h.t h' hin
  ·
   have h0 : zal e.t r = -1 := by
    rcases zck h.t r with ⟨i, hi, q, _⟩ | ⟨q, _⟩
    ·
     exact absurd (zhg.2 (by omega)) hin
    ·
     exact q
   rw [h0]
   rcases zck h' r with ⟨i, hi, q, q2⟩ | ⟨q, _⟩
   ·
    exfalso
    by_cases hil : i < e.t.length
    ·
     rw [zd3 x hil] at q2
     exact hin ((zu0 h.t).2 ⟨i, hil, q2⟩)
    ·
     have : i = e.t.length := by simp at hi; omega
     rw [this, zm1, hroot] at q2
     exact hr q2.symm
   ·
    exact q
 have ha : a ≠ b.root := fun q => hno (.inr (.inl q))
 have hc : c ≠ b.root := fun q => hno (.inr (.inr q))
 refine z2t (zew h ver).1 (zew hg ver).1 (fun k => absurd (.inl k) hno) (by rw [hf1, hf2]) (fun _ => ?_) (fun _ => ?_)
 ·
  rw [ht1, ht2, hplace a ha]
  by_cases h0 : zal e.t a < 0
  ·
   exact .inl ⟨h0, h0⟩
  ·
   refine .inr ⟨by omega, by omega, ?_⟩
   obtain ⟨i, hi, q, _⟩ := zil h.t (zhg.2 (show 0 ≤ zal e.t a by omega))
   rw [q, zjy h.t hi, zjy h' (by simp; omega), ykt h.t h' slot i hi]
   by_cases h1 : atT e.t i slot < 0
   ·
    exact .inl ⟨h1, h1⟩
   ·
    refine .inr ⟨by omega, by omega, ?_⟩
    rcases zt5 h.t slot i hi with ⟨q1, _⟩ | ⟨n, q1, hn, _⟩
    ·
     omega
    ·
     rw [q1]
     have : ((n : Int)).toNat = n := by omega
     rw [this, zd3 x hn]
 ·
  rw [ht1, ht2, hplace a ha, hplace c hc]
  by_cases h0 : zal e.t a < 0 ∨ zal e.t c < 0
  ·
   exact .inl ⟨h0, h0⟩
  ·
   refine .inr ⟨⟨by omega, by omega⟩, ⟨by omega, by omega⟩, ?_⟩
   obtain ⟨i, hi, q, _⟩ := zil h.t (zhg.2 (show 0 ≤ zal e.t a by omega))
   obtain ⟨k, hk, r, _⟩ := zil h.t (zhg.2 (show 0 ≤ zal e.t c by omega))
   rw [q, r, zb6 h.t hi hk, zb6 h' (by simp; omega) (by simp; omega), zmg h.t h' i k hk]
end
end Go.Proofs.YtkalofboioffiaaGreat
