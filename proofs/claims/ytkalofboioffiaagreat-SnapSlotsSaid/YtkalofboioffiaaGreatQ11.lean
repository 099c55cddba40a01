import Derived.Test.YtkalofboioffiaaGreatQ10
namespace Go.Proofs.YtkalofboioffiaaGreat
open Go.RowKit
set_option maxRecDepth 200000
set_option maxHeartbeats 64000000
section
variable {e : Eg} {a : Aa} {b : Bk}
theorem yk1 (h : ze9 e b ≠ 0) : blkG e b = e := by unfold blkG; rw [if_neg h]
theorem z4p (p : Nat → Bool) (g : Nat → Nat) : ∀ n, sumF g (zgp p n) = sumF (fun k => if p k = true then g (zgp p k) else 0) n
 | 0 => rfl
 | n + 1 => by
  rw [ycr]
  show _ = sumF (fun k => if p k = true then g (zgp p k) else 0) n + (if p n = true then g (zgp p n) else 0)
  rw [← z4p p g n]
  by_cases h : p n = true
  ·
   rw [if_pos h, if_pos h]; rfl
  ·
   rw [if_neg h, if_neg h]; rfl
theorem yn6 {l : List Nd} (h : MayT l) {i a : Nat} (hi : i < l.length) (ha : zbw l i a = true) {f f' : Nat → Nat} (hf : ∀ k, zbw l i k = true → f' (zbo l i k) = f k) : subT (cutL l i) f' (zbo l i a) = subT l f a := by
 unfold subT
 rw [show (cutL l i).length = zgp (zbw l i) l.length from zud, z4p]
 refine zbu _ fun k hk => ?_
 by_cases hkk : zbw l i k = true
 ·
  rw [if_pos hkk, ← hf k hkk]
  show (if zao (cutL l i) (zbo l i a) (zbo l i k) = true then f' (zbo l i k) else 0) = _
  rw [zgt h hi ha k hkk]
 ·
  rw [if_neg hkk]
  by_cases hak : zao l a k = true
  ·
   exact absurd (zaz.2 ⟨hk, zcr h (zaz.1 ha).2 k hk hak⟩) hkk
  ·
   rw [if_neg hak]
theorem zg8 (lt : Rt → Rt → Bool) {ok ok' p : Ck → Bool} : ∀ (cs : List Ck) (o : Ck), (∀ c, c ∈ cs → p c = true → ok' c = ok c) → (∀ c, c ∈ cs → p c = false → ok c = false ∨ c.epoch.toNat < o.epoch.toNat) → zeb lt ok' (cs.filter p) o = zeb lt ok cs o
 | [], _, _, _ => rfl
 | c :: cs, o, h1, h2 => by
  have h1' : ∀ x, x ∈ cs → p x = true → ok' x = ok x := fun x hx => h1 x (List.mem_cons_of_mem _ hx)
  cases hp : p c
  ·
   rw [List.filter_cons_of_neg (by rw [hp]; exact Bool.false_ne_true)]
   have hno : (ok c && betC lt o c) = false := by
    rcases h2 c List.mem_cons_self hp with e | e
    ·
     rw [e]; rfl
    ·
     have : betC lt o c = false := by
      unfold betC
      rw [decide_eq_false (by omega), decide_eq_false (fun e2 => by rw [e2] at e; omega)]
      rfl
     rw [this, Bool.and_false]
   rw [zg8 lt cs o h1' (fun x hx => h2 x (List.mem_cons_of_mem _ hx))]
   show _ = zeb lt ok cs (if (ok c && betC lt o c) = true then c else o)
   rw [hno]; rfl
  ·
   rw [List.filter_cons_of_pos hp]
   show zeb lt ok' (cs.filter p) (if (ok' c && betC lt o c) = true then c else o) = zeb lt ok cs (if (ok c && betC lt o c) = true then c else o)
   rw [h1 c List.mem_cons_self hp]
   refine zg8 lt cs _ h1' fun x hx hpx => ?_
   rcases h2 x (List.mem_cons_of_mem _ hx) hpx with e | e
   ·
    exact .inl e
   ·
    refine .inr ?_
    by_cases hb : (ok c && betC lt o c) = true
    ·
     rw [if_pos hb]
     rw [Bool.and_eq_true] at hb
     have := hb.2
     unfold betC at this
     rw [Bool.or_eq_true, Bool.and_eq_true, decide_eq_true_iff, decide_eq_true_iff] at this
     rcases this with q | q
     ·
      omega
     ·
      rw [q.1]; exact e
    ·
     rw [if_neg hb]; exact e
theorem yhk (h : MayS' e) : zif e = 0 ∧ prG e = { e with t := prT e, v := prV e, w := wtsL (prT e) (prV e) e.bal, k := e.k.filter (zsb (prT e) e.fin), j := e.j.filter (zwa (prT e) e.fin) } := by
 have h0 : zif e = 0 := by unfold zif; rw [zhx.2 h, if_pos rfl]
 exact ⟨h0, by unfold prG; rw [if_pos h0]⟩
theorem ynh (h : MayS' e) : zjz (prG e).t (prG e).j (prG e).fin = zjz e.t e.j e.fin := by
 obtain ⟨i, hi, e1, e2, e3⟩ := zxm h
 obtain ⟨_, r2⟩ := yhk h
 have ag : AgreeT e.t (prT e) (fun r => inT (prT e) r = true) := by rw [e3]; exact zwx h.t hi
 have hfin : inT (prT e) e.fin.root = true := by rw [e3, zj8 h.t hi]; exact ⟨i, zfv h.t hi, e2⟩
 rw [r2]
 show zeb zbz (fun c => zb9 (prT e) c e.fin) (e.j.filter (zwa (prT e) e.fin)) e.fin = zeb zbz (fun c => zb9 e.t c e.fin) e.j e.fin
 refine zg8 zbz e.j e.fin (fun c hc hp => (ag c e.fin (zg6.1 hp).1 hfin).symm) fun c hc hp => ?_
 by_cases hep : c.epoch.toNat < e.fin.epoch.toNat
 ·
  exact .inr hep
 ·
  refine .inl ?_
  rw [← Bool.not_eq_true]
  intro hb
  obtain ⟨x, y, _, f1, f2, hx, hy, hab⟩ := zf6 hb
  rw [e1] at f1
  obtain rfl : i = x := by omega
  obtain ⟨k, hk, g1, g2⟩ := zil h.t (h.inJ c hc)
  rw [f2] at g1
  obtain rfl : y = k := by omega
  have : inT (prT e) c.root = true := by rw [e3, zj8 h.t hi]; exact ⟨y, zaz.2 ⟨hy, hab⟩, g2⟩
  rw [zg6.2 ⟨this, by omega⟩] at hp
  cases hp
theorem zxw (h : MayS' e) {a b s : Nat} (ha : a < e.t.length) (hb : b < e.t.length) :
  ∃ i : Nat, i < e.t.length ∧ zal e.t e.fin.root = i ∧
  ((
   zal (prG e).t (nd e.t a).root = -1 ∧ zao e.t i a = false) ∨ ∃ x : Nat, zal (prG e).t (nd e.t a).root = x ∧ x < (prG e).t.length ∧ zao e.t i a = true ∧ fn (prG e).w x = fn e.w a ∧
   (zal (prG e).t (nd e.t b).root = -1 ∨ ∃ y : Nat, zal (prG e).t (nd e.t b).root = y ∧ y < (prG e).t.length ∧ zao (prG e).t x y = zao e.t a b) ∧
   ((s < sl e.t i ∧ atT (prG e).t x s = -1) ∨ (sl e.t i ≤ s ∧ ∃ p q : Nat, atT (prG e).t x s = p ∧ atT e.t a s = q ∧ p < (prG e).t.length ∧ q < e.t.length ∧ (nd (prG e).t p).root = (nd e.t q).root))) := by
 obtain ⟨i, hi, e1, e2, e3⟩ := zxm h
 obtain ⟨_, r2⟩ := yhk h
 refine ⟨i, hi, e1, ?_⟩
 have ht : (prG e).t = cutL e.t i := by rw [r2]; exact e3
 obtain ⟨_, _, hc⟩ := ymk h.t (s := s) hi ha hb
 rw [ht]
 rcases hc with hc | ⟨x, h1, h2, h3, h4, h5⟩
 ·
  exact .inl hc
 ·
  refine .inr ⟨x, h1, h2, h3, ?_, h4, h5⟩
  have hka : zbw e.t i a = true := zaz.2 ⟨ha, h3⟩
  have hx : x = zbo e.t i a := by rw [zfs h.t hi hka] at h1; omega
  have hg := pr_G h
  have hfit' : fitB (prT e) (prV e) e.bal = true := by
   have := hg.fit
   rw [r2] at this
   exact this
  rw [r2]
  show fn (wtsL (prT e) (prV e) e.bal) x = fn e.w a
  rw [h.w, z4w h.fit ha, z4w hfit' (by rw [e3]; exact h2)]
  have hmT : MayT (prT e) := by rw [e3]; exact zee h.t hi
  rw [hx]
  have hown : ∀ k, zbw e.t i k = true → ownF (prT e) (prV e) e.bal (zbo e.t i k) = ownF e.t e.v e.bal k := fun k hk => by
   unfold ownF
   refine ztq fun u hu => ?_
   rw [← h.vl] at hu
   unfold forB
   rw [ych h hu hmT, show nd (prT e) (zbo e.t i k) = nd (cutL e.t i) (zbo e.t i k) by rw [e3], zdd hk]
   by_cases hs : inT (prT e) (lat e.v.l u).root = true
   ·
    rw [if_pos hs]
   ·
    rw [if_neg hs]
    by_cases hr : (lat e.v.l u).root = (nd e.t k).root
    ·
     exact absurd (by rw [hr, e3, zj8 h.t hi]; exact ⟨k, hk, rfl⟩) hs
    ·
     rw [decide_eq_false hr, Bool.and_false]; rfl
  have := yn6 h.t hi hka (f' := ownF (prT e) (prV e) e.bal) (f := ownF e.t e.v e.bal) hown
  rw [← this, e3]
end
section
variable (l : List Nd) (lt : Rt → Rt → Bool) (w : Nat → Nat) (leads : Nat → Bool)
def zdx (i k : Nat) : Bool := decide ((nd l k).parent = (i : Int)) && leads k
def zch (k b : Nat) : Bool := decide (w b < w k) || (decide (w k = w b) && lt (nd l b).root (nd l k).root)
def zz2 (i : Nat) : Nat → Option Nat
 | 0 => none
 | n + 1 => match zz2 i n with
  | none => if zdx l leads i n = true then some n else none
  | some b => if (zdx l leads i n && zch l lt w n b) = true then some n else some b
def ze1 (i : Nat) : Option Nat := zz2 l lt w leads i l.length
def wayF : Nat → Nat → List Nat
 | 0, i => [i]
 | f + 1, i => i :: (match ze1 l lt w leads i with | none => [] | some k => wayF f k)
def wayT (i : Nat) : List Nat := wayF l lt w leads (l.length - i) i
def zik (i : Nat) : Nat := (wayT l lt w leads i).getLastD i
end
structure Strict (lt : Rt → Rt → Bool) : Prop where
 irr : ∀ a, lt a a = false
 trans : ∀ a b c, lt a b = true → lt b c = true → lt a c = true
 total : ∀ a b, a ≠ b → lt a b = true ∨ lt b a = true
section
variable {l : List Nd} {lt : Rt → Rt → Bool} {w : Nat → Nat} {leads : Nat → Bool}
theorem zml {k b : Nat} : zch l lt w k b = true ↔ w b < w k ∨ (w k = w b ∧ lt (nd l b).root (nd l k).root = true) := by
 unfold zch
 rw [Bool.or_eq_true, Bool.and_eq_true, decide_eq_true_iff, decide_eq_true_iff]
theorem zw2 (hs : Strict lt) {k b n : Nat} (h1 : zch l lt w k b = false) (h2 : zch l lt w n b = true) : zch l lt w k n = false := by
 rw [← Bool.not_eq_true] at h1 ⊢
 intro h3
 apply h1
 rw [zml] at *
 rcases h2 with h2 | ⟨h2, h2'⟩ <;> rcases h3 with h3 | ⟨h3, h3'⟩
 ·
  exact .inl (by omega)
 ·
  exact .inl (by omega)
 ·
  exact .inl (by omega)
 ·
  exact .inr ⟨by omega, hs.trans _ _ _ h2' h3'⟩
theorem zkr (hs : Strict lt) (i : Nat) : ∀ n, (zz2 l lt w leads i n = none ∧ ∀ k, k < n → zdx l leads i k = false) ∨ ∃ b, zz2 l lt w leads i n = some b ∧ b < n ∧ zdx l leads i b = true ∧ ∀ k, k < n → zdx l leads i k = true → zch l lt w k b = false
 | 0 => .inl ⟨rfl, fun k hk => by omega⟩
 | n + 1 => by
  have e : zz2 l lt w leads i (n + 1) = match zz2 l lt w leads i n with
   | none => if zdx l leads i n = true then some n else none
   | some b => if (zdx l leads i n && zch l lt w n b) = true then some n else some b := rfl
  have self : ∀ b, zch l lt w b b = false := fun b => by
   rw [← Bool.not_eq_true, zml]
   rintro (h | ⟨_, h⟩)
   ·
    omega
   ·
    rw [hs.irr] at h; cases h
  rcases zkr hs i n with ⟨e1, hn⟩ | ⟨b, e1, hb, hc, hall⟩
  ·
   rw [e, e1]
   by_cases hc : zdx l leads i n = true
   ·
    refine .inr ⟨n, by simp [hc], by omega, hc, fun k hk hck => ?_⟩
    by_cases hkn : k < n
    ·
     rw [hn k hkn] at hck; cases hck
    ·
     obtain rfl : k = n := by omega
     exact self k
   ·
    refine .inl ⟨by simp [hc], fun k hk => ?_⟩
    by_cases hkn : k < n
    ·
     exact hn k hkn
    ·
     obtain rfl : k = n := by omega
     simpa using hc
  ·
   rw [e, e1]
   by_cases hnb : (zdx l leads i n && zch l lt w n b) = true
   ·
    have h2 := hnb
    rw [Bool.and_eq_true] at h2
    refine .inr ⟨n, by simp [h2.1, h2.2], by omega, h2.1, fun k hk hck => ?_⟩
    by_cases hkn : k < n
    ·
     exact zw2 hs (hall k hkn hck) h2.2
    ·
     obtain rfl : k = n := by omega
     exact self k
   ·
    refine .inr ⟨b, by simp only []; rw [if_neg hnb], by omega, hc, fun k hk hck => ?_⟩
    by_cases hkn : k < n
    ·
     exact hall k hkn hck
    ·
     obtain rfl : k = n := by omega
     rw [Bool.and_eq_true] at hnb
     rw [← Bool.not_eq_true]
     exact fun h => hnb ⟨hck, h⟩
theorem ykw (hs : Strict lt) (h : MayT l) {i b : Nat} (hb : b < l.length) (hc : zdx l leads i b = true) (hall : ∀ k, k < l.length → zdx l leads i k = true → zch l lt w k b = false) : ze1 l lt w leads i = some b := by
 rcases zkr (w := w) (leads := leads) hs i l.length with ⟨_, hn⟩ | ⟨c, e, hcl, hcc, hca⟩
 ·
  rw [hn b hb] at hc; cases hc
 ·
  unfold ze1
  rw [e]
  have h1 := hall c hcl hcc
  have h2 := hca b hb hc
  rw [← Bool.not_eq_true, zml] at h1 h2
  have hw : w c = w b := by omega
  by_cases hr : (nd l c).root = (nd l b).root
  ·
   rw [h.roots hcl hb hr]
  ·
   rcases hs.total _ _ hr with h3 | h3
   ·
    exact absurd (.inr ⟨hw.symm, h3⟩) h2
   ·
    exact absurd (.inr ⟨hw, h3⟩) h1
theorem zh6 (hs : Strict lt) {i k : Nat} (e : ze1 l lt w leads i = some k) : k < l.length ∧ (nd l k).parent = (i : Int) ∧ leads k = true ∧ ∀ j, j < l.length → (nd l j).parent = (i : Int) → leads j = true → zch l lt w j k = false := by
 rcases zkr (w := w) (leads := leads) hs i l.length with ⟨e1, _⟩ | ⟨b, e1, hb, hc, hall⟩
 ·
  unfold ze1 at e; rw [e1] at e; cases e
 ·
  unfold ze1 at e
  rw [e1] at e
  obtain rfl := Option.some.inj e
  unfold zdx at hc
  rw [Bool.and_eq_true, decide_eq_true_iff] at hc
  exact ⟨hb, hc.1, hc.2, fun j hj hp hl => hall j hj (by unfold zdx; rw [hl, Bool.and_true, decide_eq_true_iff]; exact hp)⟩
theorem zw1 (hs : Strict lt) {i : Nat} (e : ze1 l lt w leads i = none) : ∀ k, k < l.length → (nd l k).parent = (i : Int) → leads k = false := by
 rcases zkr (w := w) (leads := leads) hs i l.length with ⟨_, hn⟩ | ⟨b, e1, _⟩
 ·
  intro k hk hp
  have := hn k hk
  unfold zdx at this
  rw [decide_eq_true hp, Bool.true_and] at this
  exact this
 ·
  unfold ze1 at e; rw [e1] at e; cases e
theorem yeu (hs : Strict lt) {i : Nat} (hn : ∀ k, k < l.length → (nd l k).parent = (i : Int) → leads k = false) : ze1 l lt w leads i = none := by
 cases e : ze1 l lt w leads i with
 | none => rfl
 | some k =>
  obtain ⟨h1, h2, h3, _⟩ := zh6 hs e
  rw [hn k h1 h2] at h3; cases h3
theorem zmk (hs : Strict lt) (h : MayT l) {i k : Nat} (e : ze1 l lt w leads i = some k) : i < k ∧ k < l.length ∧ zao l i k = true := by
 obtain ⟨h1, h2, _⟩ := zh6 hs e
 have hm := zes.2 ⟨h1, h2⟩
 obtain ⟨h3, _, h5⟩ := zu3 h hm
 refine ⟨h3, h1, (zbq h i (by omega) h1).2 (.inr ?_)⟩
 rw [h5]; exact zb8 h (by omega)
theorem yix (hs : Strict lt) (h : MayT l) : ∀ (d i : Nat), l.length - i = d → i < l.length → ∀ f, l.length - i ≤ f → wayF l lt w leads f i = wayF l lt w leads (l.length - i) i := by
 intro d
 induction d using Nat.strongRecOn with
 | _ d ih =>
  intro i hd hi f hf
  obtain ⟨f', rfl⟩ : ∃ f', f = f' + 1 := ⟨f - 1, by omega⟩
  obtain ⟨g, hg⟩ : ∃ g, l.length - i = g + 1 := ⟨l.length - i - 1, by omega⟩
  rw [hg]
  simp only [wayF]
  cases e : ze1 l lt w leads i with
  | none => rfl
  | some k =>
   obtain ⟨h1, h2, _⟩ := zmk hs h e
   simp only []
   rw [ih (l.length - k) (by omega) k rfl h2 f' (by omega), ih (l.length - k) (by omega) k rfl h2 g (by omega)]
theorem zwo {i : Nat} (e : ze1 l lt w leads i = none) : wayT l lt w leads i = [i] := by
 unfold wayT
 cases l.length - i with
 | zero => rfl
 | succ f => simp only [wayF, e]
theorem zwp (hs : Strict lt) (h : MayT l) {i k : Nat} (e : ze1 l lt w leads i = some k) : wayT l lt w leads i = i :: wayT l lt w leads k := by
 obtain ⟨h1, h2, _⟩ := zmk hs h e
 unfold wayT
 obtain ⟨g, hg⟩ : ∃ g, l.length - i = g + 1 := ⟨l.length - i - 1, by omega⟩
 rw [hg]
 simp only [wayF, e]
 rw [yix hs h _ k rfl h2 g (by omega)]
theorem zma (i : Nat) : ∃ r, wayT l lt w leads i = i :: r := by
 unfold wayT
 cases l.length - i with
 | zero => exact ⟨[], rfl⟩
 | succ f => exact ⟨_, rfl⟩
theorem zp2 {i : Nat} (e : ze1 l lt w leads i = none) : zik l lt w leads i = i := by unfold zik; rw [zwo e]; rfl
theorem zld (hs : Strict lt) (h : MayT l) {i k : Nat} (e : ze1 l lt w leads i = some k) : zik l lt w leads i = zik l lt w leads k := by
 unfold zik
 rw [zwp hs h e]
 obtain ⟨r, hr⟩ := zma (l := l) (lt := lt) (w := w) (leads := leads) k
 rw [hr]
 rfl
theorem z3q (hs : Strict lt) (h : MayT l) : ∀ (d i : Nat), l.length - i = d → i < l.length → zik l lt w leads i < l.length ∧ zao l i (zik l lt w leads i) = true ∧ ze1 l lt w leads (zik l lt w leads i) = none ∧ (zik l lt w leads i ≠ i → leads (zik l lt w leads i) = true) := by
 intro d
 induction d using Nat.strongRecOn with
 | _ d ih =>
  intro i hd hi
  cases e : ze1 l lt w leads i with
  | none => rw [zp2 e]; exact ⟨hi, zb8 h hi, e, fun hne => absurd rfl hne⟩
  | some k =>
   obtain ⟨h1, h2, h3⟩ := zmk hs h e
   rw [zld hs h e]
   obtain ⟨a, b, c, f⟩ := ih (l.length - k) (by omega) k rfl h2
   refine ⟨a, zcr h h3 _ a b, c, fun _ => ?_⟩
   by_cases hk : zik l lt w leads k = k
   ·
    rw [hk]; exact (zh6 hs e).2.2.1
   ·
    exact f hk
theorem yd3 (hs : Strict lt) (h : MayT l) : ∀ (d i : Nat), l.length - i = d → i < l.length → (∀ j, j < (wayT l lt w leads i).length → (wayT l lt w leads i).getD j 0 < l.length ∧ zik l lt w leads ((wayT l lt w leads i).getD j 0) = zik l lt w leads i ∧ i ≤ (wayT l lt w leads i).getD j 0) ∧ (∀ j, j + 1 < (wayT l lt w leads i).length → ze1 l lt w leads ((wayT l lt w leads i).getD j 0) = some ((wayT l lt w leads i).getD (j + 1) 0)) ∧ (wayT l lt w leads i).length ≤ l.length - i := by
 intro d
 induction d using Nat.strongRecOn with
 | _ d ih =>
  intro i hd hi
  cases e : ze1 l lt w leads i with
  | none =>
   rw [zwo e]
   refine ⟨fun j hj => ?_, fun j hj => ?_, ?_⟩
   ·
    obtain rfl : j = 0 := by simpa using hj
    exact ⟨hi, rfl, Nat.le_refl _⟩
   ·
    simp at hj
   ·
    simp; omega
  | some k =>
   obtain ⟨h1, h2, _⟩ := zmk hs h e
   obtain ⟨a, b, c⟩ := ih (l.length - k) (by omega) k rfl h2
   rw [zwp hs h e]
   refine ⟨fun j hj => ?_, fun j hj => ?_, ?_⟩
   ·
    cases j with
    | zero => exact ⟨hi, rfl, Nat.le_refl _⟩
    | succ j =>
     obtain ⟨x, y, z⟩ := a j (by simpa using hj)
     rw [List.getD_cons_succ]
     exact ⟨x, by rw [y, zld hs h e], by omega⟩
   ·
    cases j with
    | zero =>
     obtain ⟨r, hr⟩ := zma (l := l) (lt := lt) (w := w) (leads := leads) k
     rw [List.getD_cons_succ, hr]
     exact e
    | succ j =>
     rw [List.getD_cons_succ, List.getD_cons_succ]
     exact b j (by simpa using hj)
   ·
    rw [List.length_cons]; omega
end
section
open Go.RowKit
def Eboo : Lie Bool := ⟨4, 1, fun b => [.bool b], by decide, fun _ => rfl, fun _ u h => by rw [List.mem_singleton.1 h]; rfl⟩
theorem ygi : (Tryz.prog.info? 4).map (fun i => (i.zero, i.size, i.bytes)) = some (some (.bool false), 1, 1) := by kernel_rfl
section
open Go.WideShapes Go.ChangeShapes
variable {H : Type} {enc : TypeId × Value → H} {w : World} {base : Nat} {sp : Nat → Bool} {held : Bool}
end
def bn (b : List Bool) (k : Nat) : Bool := b.getD k false
theorem yo8 {b : List Bool} {k : Nat} (h : k < b.length) : bn b k = b[k] := by unfold bn; simp [h]
theorem zw4 {w : World} {b off : Nat} {a : List Bool} (h : w.rangeAt b off (zaq Eboo a)) {i : Nat} (hi : i < a.length) : w.cell? ⟨b, off + i, none⟩ = some (.bool (bn a i)) := by
 have := zpd h hi (j := 0) (v := .bool a[i]) rfl
 rw [yo8 hi]
 simpa [Eboo] using this
theorem z20 {w : World} {p : Option Addr} {n cp : Nat} {a : List Bool} (h : SlE Eboo w (.slice p n cp) a) (h0 : 0 < a.length) : ∃ b o, p = some ⟨b, o, none⟩ ∧ b < w.heap.size ∧ w.rangeAt b o (zaq Eboo a) := by
 obtain ⟨b, o, c, e, _, q, x⟩ := zdm h h0
 injection e with e1 e2 e3
 exact ⟨b, o, e1, q, x⟩
def BoosIs (L : List Bool) (w : World) (e : Ending) (w' : World) : Prop := ∃ v, e = .returned v ∧ OwnE Eboo w' w.heap.size v L ∧ Below w.heap.size w w'
end
theorem ltS : Strict zbz := ⟨zkm.1, zkm.2.1, zkm.2.2⟩
def ykm (l : List Nd) (w : List UInt64) (b : List Bool) : Prop := MayT l ∧ w.length = l.length ∧ b.length = l.length
instance (l : List Nd) (w : List UInt64) (b : List Bool) : Decidable (ykm l w b) := by unfold ykm; exact inferInstance
def znh (l : List Nd) (w : List UInt64) (b : List Bool) : Bool := decide (ykm l w b)
def optZ : Option Nat → Int
 | none => -1
 | some k => (k : Int)
theorem zyo : optZ none = -1 := rfl
theorem zqy (k : Nat) : optZ (some k) = (k : Int) := rfl
def zn2 (l : List Nd) (w : List UInt64) (b : List Bool) (i : Nat) : Option Nat := ze1 l zbz (fn w) (bn b) i
def wayN (l : List Nd) (w : List UInt64) (b : List Bool) (i : Nat) : List Nat := wayT l zbz (fn w) (bn b) i
def zn6 (l : List Nd) (w : List UInt64) (b : List Bool) (i : Nat) : Nat := zik l zbz (fn w) (bn b) i
def ziq (l : List Nd) (w : List UInt64) (b : List Bool) (i : Int) : Bool := znh l w b && (decide (0 ≤ i) && decide (i < l.length))
def zxr (l : List Nd) (w : List UInt64) (b : List Bool) (i : Int) : Int := if ziq l w b i = true then (zn6 l w b i.toNat : Int) else -1
section
variable {l : List Nd} {w : List UInt64} {b : List Bool}
theorem zl5 : znh l w b = true ↔ MayT l ∧ w.length = l.length ∧ b.length = l.length := by
 unfold znh
 rw [decide_eq_true_iff]
 exact Iff.rfl
theorem zyr {i : Int} : ziq l w b i = true ↔ znh l w b = true ∧ 0 ≤ i ∧ i < l.length := by
 unfold ziq
 rw [Bool.and_eq_true, Bool.and_eq_true, decide_eq_true_iff, decide_eq_true_iff]
theorem zys (h : znh l w b = true) {i : Nat} (hi : i < l.length) : ziq l w b (i : Int) = true := zyr.2 ⟨h, by omega, by omega⟩
theorem yar (h : znh l w b = true) {i : Nat} (hi : i < l.length) : zxr l w b (i : Int) = zn6 l w b i := by
 unfold zxr
 rw [if_pos (zys h hi), Int.toNat_natCast]
def zgr (l : List Nd) (w : List UInt64) (b : List Bool) (i n : Nat) : Option Nat := zz2 l zbz (fn w) (bn b) i n
theorem z41 (i : Nat) : zgr l w b i l.length = zn2 l w b i := rfl
theorem zsj {i n : Nat} (h : zdx l (bn b) i n = false) : zgr l w b i (n + 1) = zgr l w b i n := by
 show (match zgr l w b i n with | none => if zdx l (bn b) i n = true then some n else none | some m => if (zdx l (bn b) i n && zch l zbz (fn w) n m) = true then some n else some m) = _
 rw [h]
 cases zgr l w b i n <;> rfl
theorem zw0 {i n : Nat} (h : zdx l (bn b) i n = true) (e : zgr l w b i n = none) : zgr l w b i (n + 1) = some n := by
 show (match zgr l w b i n with | none => if zdx l (bn b) i n = true then some n else none | some m => if (zdx l (bn b) i n && zch l zbz (fn w) n m) = true then some n else some m) = _
 rw [h, e]
 rfl
theorem zz4 {i n m : Nat} (h : zdx l (bn b) i n = true) (e : zgr l w b i n = some m) : zgr l w b i (n + 1) = if zch l zbz (fn w) n m = true then some n else some m := by
 show (match zgr l w b i n with | none => if zdx l (bn b) i n = true then some n else none | some m => if (zdx l (bn b) i n && zch l zbz (fn w) n m) = true then some n else some m) = _
 rw [h, e]
 show (if (true && zch l zbz (fn w) n m) = true then some n else some m) = _
 rw [Bool.true_and]
theorem ykv {i k : Nat} (e : zn2 l w b i = some k) : k < l.length := (zh6 ltS e).1
theorem ymm (h : MayT l) {i : Nat} (hi : i < l.length) : zn6 l w b i < l.length ∧ zao l i (zn6 l w b i) = true ∧ zn2 l w b (zn6 l w b i) = none ∧ 0 < (wayN l w b i).length ∧ (wayN l w b i).length ≤ l.length ∧ (wayN l w b i).getD 0 0 = i ∧ (wayN l w b i).getD ((wayN l w b i).length - 1) 0 = zn6 l w b i ∧
  (∀ j, j < (wayN l w b i).length → (wayN l w b i).getD j 0 < l.length ∧ zn6 l w b ((wayN l w b i).getD j 0) = zn6 l w b i) ∧ ∀ j, j + 1 < (wayN l w b i).length → zn2 l w b ((wayN l w b i).getD j 0) = some ((wayN l w b i).getD (j + 1) 0) := by
 obtain ⟨a1, a2, a3, _⟩ := z3q (w := fn w) (leads := bn b) ltS h _ i rfl hi
 obtain ⟨b1, b2, b3⟩ := yd3 (w := fn w) (leads := bn b) ltS h _ i rfl hi
 obtain ⟨r, hr⟩ := zma (l := l) (lt := zbz) (w := fn w) (leads := bn b) i
 have hr' : wayN l w b i = i :: r := hr
 have hb3 : (wayN l w b i).length + i ≤ l.length ∨ (wayN l w b i).length ≤ l.length := by
  first | exact .inr (by have := b3; unfold wayN; omega)
 refine ⟨a1, a2, a3, by rw [hr']; simp, by omega, by rw [hr']; rfl, ?_, fun j hj => ⟨(b1 j hj).1, (b1 j hj).2.1⟩, b2⟩
 show _ = (wayN l w b i).getLastD i
 rw [hr']
 cases r with
 | nil => rfl
 | cons x r => simp [List.getLastD, List.getLast_eq_getElem, List.getD_eq_getElem?_getD]
end
def zki (l : List Nd) (just : Nat) (fin k : Int) : Bool := zb0 l fin k && (decide (z57 l k = []) && decide (just ≤ (nd l k.toNat).just.toNat))
def anyB (p : Nat → Bool) : Nat → Bool
 | 0 => false
 | n + 1 => anyB p n || p n
theorem z2s (p : Nat → Bool) : ∀ n, anyB p n = true ↔ ∃ k, k < n ∧ p k = true
 | 0 => ⟨fun h => (by cases h), fun ⟨k, hk, _⟩ => (by omega)⟩
 | n + 1 => by
  rw [show anyB p (n + 1) = (anyB p n || p n) from rfl, Bool.or_eq_true, z2s p n]
  constructor
  ·
   rintro (⟨k, hk, h⟩ | h)
   ·
    exact ⟨k, by omega, h⟩
   ·
    exact ⟨n, by omega, h⟩
  ·
   rintro ⟨k, hk, h⟩
   by_cases e : k = n
   ·
    subst e; exact .inr h
   ·
    exact .inl ⟨k, by omega, h⟩
def zr4 (l : List Nd) (just : Nat) (fin : Int) (i : Nat) : Bool := anyB (fun k => zao l i k && zki l just fin (k : Int)) l.length
def z3s (l : List Nd) (just : Nat) (fin : Int) : List Bool := if MayT l then (List.range l.length).map (zr4 l just fin) else []
def yam (l : List Nd) (r : Rt) (fin : Int) : Int := if isT l fin = true then (if zb0 l fin (zal l r) = true then zal l r else fin) else -1
section
variable {l : List Nd}
theorem zlj {just : Nat} {fin : Int} {i : Nat} : zr4 l just fin i = true ↔ ∃ k, k < l.length ∧ zao l i k = true ∧ zki l just fin (k : Int) = true := by
 unfold zr4
 rw [z2s]
 simp only [Bool.and_eq_true]
theorem zoo (h : MayT l) {just : Nat} {fin : Int} {k : Nat} (hk : k < l.length) : zki l just fin (k : Int) = true ↔ zb0 l fin (k : Int) = true ∧ zjn l k = [] ∧ just ≤ (nd l k).just.toNat := by
 unfold zki
 rw [Bool.and_eq_true, Bool.and_eq_true, decide_eq_true_iff, decide_eq_true_iff, zp8 h hk]
 simp
theorem zwv {i k : Int} (e : zb0 l i k = true) : MayT l ∧ 0 ≤ i ∧ i < l.length ∧ 0 ≤ k ∧ k < l.length ∧ zao l i.toNat k.toNat = true := by
 unfold zb0 at e
 rw [Bool.and_eq_true, Bool.and_eq_true, zdi, zdi] at e
 exact ⟨e.1.1.1, e.1.1.2.1, e.1.1.2.2, e.1.2.2.1, e.1.2.2.2, e.2⟩
theorem zww (h : MayT l) {i : Nat} : ∀ k, k < l.length → zao l i k = true → k ≠ i → ∃ c, c ∈ zjn l i ∧ zao l c k = true := by
 intro k
 induction k using Nat.strongRecOn with
 | _ k ih =>
  intro hk ha hne
  by_cases h0 : k = 0
  ·
   subst h0; rw [zb1, decide_eq_true_iff] at ha; omega
  ·
   have hp := Nat.pos_of_ne_zero h0
   obtain ⟨hpar, hu, _⟩ := h.par hp hk
   rcases (zbq h i hp hk).1 ha with e | e
   ·
    omega
   ·
    by_cases hi : up l k = i
    ·
     exact ⟨k, zes.2 ⟨hk, by rw [hpar, hi]⟩, zb8 h hk⟩
    ·
     obtain ⟨c, hc, hck⟩ := ih _ hu (by omega) e hi
     exact ⟨c, hc, (zbq h c hp hk).2 (.inr hck)⟩
theorem zxu (h : MayT l) {i c : Nat} (hc : c ∈ zjn l i) : zao l i c = true := by
 obtain ⟨h1, _, h3⟩ := zu3 h hc
 have hcl := (zes.1 hc).1
 refine (zbq h i (by omega) hcl).2 (.inr ?_)
 rw [h3]
 exact zb8 h (by omega)
end
section
open Go.RowKit
theorem ygj : (Tryz.prog.info? 3).map (fun i => (i.zero, i.size, i.bytes)) = some (some (.int .i64 0), 1, 8) := by kernel_rfl
theorem Kint : Known Tryz.prog Eint 60 := ⟨Tryz.underlying60, .int .i64 0, 8, ygj, rfl, by decide⟩
section
open Go.WideShapes Go.ChangeShapes
variable {H : Type} {enc : TypeId × Value → H} {w : World} {base : Nat} {sp : Nat → Bool} {held : Bool}
end
end
open Go.RowKit
section
variable {P : Program}
theorem zbb {T : TypeId} {n : Nat} (hA : ∀ w, (isAgg T).run P w = .ok true w) (hS : ∀ w, (Go.sizeOf T).run P w = .ok n w) (fn : Func) (d e : Nat) (h : fn.results = #[.cell d T, .tmp e]) (tmps : Array Value) (w : World) (b : Nat) (c : Array Value) (v : Value) (hp : tmps.getD d undef = .pointer (some ⟨b, 0, none⟩)) (hv : tmps.getD e undef = v) (hl : ldA w (.pointer (some ⟨b, 0, none⟩)) n = some c) :
  (results fn tmps).run P w = .ok (.tuple #[.agg c, v]) w := by
 have hp' : tmps[d]?.getD undef = .pointer (some ⟨b, 0, none⟩) := by simpa using hp
 have hv' : tmps[e]?.getD undef = v := by simpa using hv
 simp [results, h, hp', hv', asAddr, zfz hA hS w b 0 c hl]
theorem zax {T : TypeId} {n : Nat} (hA : ∀ w, (isAgg T).run P w = .ok true w) (hS : ∀ w, (Go.sizeOf T).run P w = .ok n w) (fn : Func) (d : Nat) (h : fn.results = #[.cell d T]) (tmps : Array Value) (w : World) (b : Nat) (c : Array Value) (hp : tmps.getD d undef = .pointer (some ⟨b, 0, none⟩)) (hl : ldA w (.pointer (some ⟨b, 0, none⟩)) n = some c) :
  (results fn tmps).run P w = .ok (.agg c) w := by
 have hp' : tmps[d]?.getD undef = .pointer (some ⟨b, 0, none⟩) := by simpa using hp
 simp [results, h, hp', asAddr, zfz hA hS w b 0 c hl]
end
@[go_sem] theorem yi2 (w : World) (c : Array Value) (t : TypeId) (b o n : Nat) (h : b = w.heap.size) (hn : o + n ≤ c.size) : wrA (w.alloc (.cells c t)) (.pointer (some ⟨b, o, none⟩)) n = true := by
 subst h
 exact yd6 (heap_alloc_last w _) hn
theorem zjc {α : Type} {E : Lie α} (w : World) (l : List α) (n : Nat) (hn : l.length = n) (hl : n ≤ maxLen) (c : Array Value) (hc : c.toList = zaq E l) (b : Nat) (hb : b = w.heap.size) : OwnE E (w.alloc (.cells c E.t)) b (.slice (some ⟨b, 0, none⟩) n n) l := by
 subst hb hn
 have hs : c.size = l.length * E.n := by rw [← Array.length_toList, hc, zbt]
 refine ⟨zbt E l, .inr ⟨w.heap.size, l.length, c, rfl, Nat.le_refl _, heap_alloc_last w _, Nat.le_refl _, hl, hs, ?_⟩⟩
 rw [hc]
 exact List.take_of_length_le (by rw [zbt]; exact Nat.le_refl _)
theorem below1 {w : World} {o : Obj} : Below w.heap.size w (w.alloc o) := (Below.refl _ _).alloc (Nat.le_refl _) _
theorem zab {w w' : World} {b : Nat} {o : Obj} (g : Below w.heap.size w w') (h : w.heap[b]? = some o) : w'.heap[b]? = some o := (g.block _ (Array.getElem?_eq_some_iff.1 h).1).trans h
theorem zft (w : World) (a b c : Array Value) (s t u : TypeId) (W : World) (hW : W = ((w.alloc (.cells a s)).alloc (.cells b t)).alloc (.cells c u)) : Below w.heap.size w W ∧ W.heap[w.heap.size]? = some (.cells a s (0, 0)) ∧ W.heap[w.heap.size + 1]? = some (.cells b t (0, 0)) ∧ W.heap[w.heap.size + 2]? = some (.cells c u (0, 0)) ∧ W.heap.size = w.heap.size + 3 := by
 subst hW
 have e1 : ∀ o : Obj, (w.alloc o).heap.size = w.heap.size + 1 := fun o => by simp
 have e2 : ∀ o o' : Obj, ((w.alloc o).alloc o').heap.size = w.heap.size + 2 := fun o o' => by simp
 refine ⟨zac (zac below1 below1) below1, ?_, ?_, ?_, by simp⟩
 ·
  exact zab below1 (zab below1 (heap_alloc_last w _))
 ·
  have := zab (below1 (o := .cells c u)) (heap_alloc_last (w.alloc (.cells a s)) (.cells b t))
  rwa [e1] at this
 ·
  have := heap_alloc_last ((w.alloc (.cells a s)).alloc (.cells b t)) (.cells c u)
  rwa [e2] at this
theorem zdb (w : World) (a b : Array Value) (s t : TypeId) (W : World) (hW : W = (w.alloc (.cells a s)).alloc (.cells b t)) : Below w.heap.size w W ∧ W.heap[w.heap.size]? = some (.cells a s (0, 0)) ∧ W.heap[w.heap.size + 1]? = some (.cells b t (0, 0)) ∧ W.heap.size = w.heap.size + 2 := by
 subst hW
 have e1 : ∀ o : Obj, (w.alloc o).heap.size = w.heap.size + 1 := fun o => by simp
 refine ⟨zac below1 below1, ?_, ?_, by simp⟩
 ·
  exact zab below1 (heap_alloc_last w _)
 ·
  have := heap_alloc_last (w.alloc (.cells a s)) (.cells b t)
  rwa [e1] at this
theorem zay {w : World} {g o : Nat} {v : Value} (h : w.cell? ⟨g, o, none⟩ = some v) (p : Wd w.drew) : p.w.cell? ⟨g, o, none⟩ = some v := (p.h.cell (p := ⟨g, o, none⟩) (block_lt_of_cell (show w.drew.cell? ⟨g, o, none⟩ = some v from h))).trans h
theorem za8 {w : World} {v : Value} {n : Nat} {c : Array Value} (h : ldA w v n = some c) (hn : 0 < n := by decide) (p : Wd w.drew) : ldA p.w v n = some c := yjl (show ldA w.drew v n = _ by rw [zu9]; exact h) hn p
theorem zc4 {w : World} {g : Nat} {c r : Array Value} {t : TypeId} (hg : w.heap[g]? = some (.cells c t (0, 0))) (h : r.size = c.size) : (stA w (.pointer (some ⟨g, 0, none⟩)) (.agg r)).heap[g]? = some (.cells r t (0, 0)) := by
 rw [zbx hg (by omega)]
 congr 2
 apply Array.toList_inj.1
 unfold za2
 simp only [List.take_zero, List.nil_append, Nat.zero_add]
 rw [List.drop_of_length_le (by rw [Array.length_toList]; omega), List.append_nil]
end Go.Proofs.YtkalofboioffiaaGreat
