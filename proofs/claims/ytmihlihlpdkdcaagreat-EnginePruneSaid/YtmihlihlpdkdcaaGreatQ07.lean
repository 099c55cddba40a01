import Derived.Test.YtmihlihlpdkdcaaGreatQ04
import Derived.Test.YtmihlihlpdkdcaaGreatQ06
import Derived.Test.YtmihlihlpdkdcaaGreatQ05
namespace Go.Proofs.YtmihlihlpdkdcaaGreat
open Go.RowKit
set_option maxRecDepth 200000
set_option maxHeartbeats 64000000
structure Vt where
 l : List Lt
 out : UInt64
theorem Vt.ext {x y : Vt} (h0 : x.l = y.l) (h1 : x.out = y.out) : x = y := by cases x; cases y; simp_all
instance : DecidableEq Vt := fun x y => decidable_of_iff (x.l = y.l ∧ x.out = y.out) ⟨fun h => Vt.ext h.1 h.2, fun h => by subst h; exact ⟨rfl, rfl⟩⟩
def lat (l : List Lt) (i : Nat) : Lt := l.getD i zlt
theorem zti {l : List Lt} {i : Nat} (h : i < l.length) : lat l i = l[i] := by unfold lat; simp [h]
theorem z5q {l k : List Lt} (hl : l.length = k.length) (h : ∀ i, i < k.length → lat l i = lat k i) : l = k := by
 refine List.ext_getElem hl fun i h1 h2 => ?_
 have := h i h2
 rwa [zti h1, zti h2] at this
theorem zl9 {l : List Lt} {i j : Nat} {x : Lt} (h : i < l.length) : lat (l.set i x) j = if j = i then x else lat l j := by
 unfold lat
 rw [List.getD_eq_getElem?_getD, List.getElem?_set]
 by_cases e : i = j
 ·
  subst e; rw [if_pos rfl, if_pos h, if_pos rfl]; rfl
 ·
  rw [if_neg e, if_neg (fun e2 => e e2.symm), List.getD_eq_getElem?_getD]
def okAt (v : Vt) (i : Nat) : Bool := if hasB v.out i = true ∧ ¬ i < v.l.length then false else if i < v.l.length ∧ (hasB v.out i = true ∨ (lat v.l i).has = false) then decide (lat v.l i = zlt) else true
def MayV (v : Vt) : Prop := 1 ≤ v.l.length ∧ v.l.length ≤ 8 ∧ ∀ i, i < 64 → okAt v i = true
instance (v : Vt) : Decidable (MayV v) := by unfold MayV; exact inferInstance
def mayV (v : Vt) : Bool := decide (MayV v)
theorem zct {v : Vt} : mayV v = true ↔ 1 ≤ v.l.length ∧ v.l.length ≤ 8 ∧ ∀ i, i < 64 → okAt v i = true := by unfold mayV; rw [decide_eq_true_iff]; rfl
theorem zd9 {v : Vt} {i : Nat} : okAt v i = true ↔ (hasB v.out i = true → i < v.l.length) ∧ (i < v.l.length → hasB v.out i = true ∨ (lat v.l i).has = false → lat v.l i = zlt) := by
 unfold okAt
 by_cases h1 : hasB v.out i = true ∧ ¬ i < v.l.length
 ·
  rw [if_pos h1]
  exact ⟨fun e => by (cases e), fun e => absurd (e.1 h1.1) h1.2⟩
 ·
  rw [if_neg h1]
  by_cases h2 : i < v.l.length ∧ (hasB v.out i = true ∨ (lat v.l i).has = false)
  ·
   rw [if_pos h2, decide_eq_true_iff]
   exact ⟨fun e => ⟨fun _ => h2.1, fun _ _ => e⟩, fun e => e.2 h2.1 h2.2⟩
  ·
   rw [if_neg h2]
   refine ⟨fun _ => ⟨fun e => Classical.byContradiction fun n => h1 ⟨e, n⟩, fun h3 h4 => absurd ⟨h3, h4⟩ h2⟩, fun _ => rfl⟩
def zjb (n : Int) : Bool := decide (1 ≤ n ∧ n ≤ 8)
def newV (n : Int) : Vt := if zjb n = true then ⟨List.replicate n.toNat zlt, 0⟩ else ⟨[], 0⟩
def inV (v : Vt) (i : Int) : Bool := decide (0 ≤ i ∧ i < v.l.length)
def zmg (v : Vt) (i : Nat) (r : Rt) (ep : UInt64) : Nat :=
 if hasB v.out i = true then 0
 else if (lat v.l i).has = true ∧ (ep.toNat < (lat v.l i).epoch.toNat ∨ (lat v.l i).epoch = ep ∧ (lat v.l i).root = r) then 0
 else if (lat v.l i).has = true ∧ (lat v.l i).epoch = ep then 2 else 1
def bitU (i : Nat) : UInt64 := UInt64.ofNat (2 ^ i)
def zqk (v : Vt) (i : Nat) (r : Rt) (ep : UInt64) : Vt := match zmg v i r ep with
 | 0 => v
 | 1 => ⟨v.l.set i ⟨true, r, ep⟩, v.out⟩
 | _ => ⟨v.l.set i zlt, v.out + bitU i⟩
def zuw (v : Vt) (i : Int) : Nat := if mayV v = true then (if inV v i = true then 0 else 10) else 1
def zui (v : Vt) (i : Int) (r : Rt) (ep : UInt64) : Nat := if mayV v = true ∧ inV v i = true then zmg v i.toNat r ep else 0
def putV (v : Vt) (i : Int) (r : Rt) (ep : UInt64) : Vt := if mayV v = true ∧ inV v i = true then zqk v i.toNat r ep else v
def zsn (keep : List Rt) (x : Lt) : Bool := decide (x.root ∈ keep)
def zjz (v : Vt) (keep : List Rt) : Vt := if mayV v = true then ⟨v.l.map fun x => if zsn keep x = true then x else zlt, v.out⟩ else v
theorem z78 {j : Nat} (hj : j < 64) (k : Nat) : hasB (bitU j) k = decide (j = k) := by
 unfold hasB bitU
 rw [UInt64.toNat_ofNat', Nat.mod_eq_of_lt (Nat.pow_lt_pow_right (by decide) hj), Nat.testBit_two_pow]
theorem ycn {out : UInt64} {j : Nat} (hj : j < 64) (h : hasB out j = false) : out + bitU j = out ||| bitU j := by
 have h0 : out &&& bitU j = 0 := zym fun i => by
  rw [yr9]
  have h1 := z78 hj i
  unfold hasB at h h1
  rw [h1]
  by_cases e : j = i
  ·
   subst e; rw [h, Bool.false_and]; exact (Nat.zero_testBit j).symm
  ·
   rw [decide_eq_false e, Bool.and_false]; exact (Nat.zero_testBit i).symm
 apply UInt64.toBitVec_inj.1
 rw [UInt64.toBitVec_add, UInt64.toBitVec_or]
 refine BitVec.add_eq_or_of_and_eq_zero _ _ ?_
 rw [← UInt64.toBitVec_and, h0]
 rfl
theorem ycg {out : UInt64} {j : Nat} (hj : j < 64) (h : hasB out j = false) (k : Nat) : hasB (out + bitU j) k = (hasB out k || decide (j = k)) := by
 rw [ycn hj h, ← z78 hj k]
 exact z7k _ _ _
theorem ynn (k : Nat) : hasB 0 k = false := Nat.zero_testBit k
section
variable {v : Vt} {i : Nat} {r : Rt} {ep : UInt64}
theorem zia (h : zmg v i r ep = 0) : zqk v i r ep = v := by unfold zqk; rw [h]; rfl
theorem zmq (h : zmg v i r ep = 1) : zqk v i r ep = ⟨v.l.set i ⟨true, r, ep⟩, v.out⟩ := by unfold zqk; rw [h]; rfl
theorem znb (h : zmg v i r ep = 2) : zqk v i r ep = ⟨v.l.set i zlt, v.out + bitU i⟩ := by unfold zqk; rw [h]; rfl
theorem zkq (v : Vt) (i : Nat) (r : Rt) (ep : UInt64) :
  (zmg v i r ep = 0 ∧ (hasB v.out i = true ∨ (lat v.l i).has = true ∧ (ep.toNat < (lat v.l i).epoch.toNat ∨ (lat v.l i).epoch = ep ∧ (lat v.l i).root = r)))
  ∨ (zmg v i r ep = 1 ∧ hasB v.out i = false ∧ ((lat v.l i).has = false ∨ (lat v.l i).epoch.toNat < ep.toNat))
  ∨ (zmg v i r ep = 2 ∧ hasB v.out i = false ∧ (lat v.l i).has = true ∧ (lat v.l i).epoch = ep ∧ (lat v.l i).root ≠ r) := by
 unfold zmg
 by_cases h1 : hasB v.out i = true
 ·
  rw [if_pos h1]; exact .inl ⟨rfl, .inl h1⟩
 ·
  rw [if_neg h1]
  have h1' : hasB v.out i = false := by simpa using h1
  by_cases h2 : (lat v.l i).has = true ∧ (ep.toNat < (lat v.l i).epoch.toNat ∨ (lat v.l i).epoch = ep ∧ (lat v.l i).root = r)
  ·
   rw [if_pos h2]; exact .inl ⟨rfl, .inr h2⟩
  ·
   rw [if_neg h2]
   by_cases h3 : (lat v.l i).has = true ∧ (lat v.l i).epoch = ep
   ·
    rw [if_pos h3]; exact .inr (.inr ⟨rfl, h1', h3.1, h3.2, fun e => h2 ⟨h3.1, .inr ⟨h3.2, e⟩⟩⟩)
   ·
    rw [if_neg h3]
    refine .inr (.inl ⟨rfl, h1', ?_⟩)
    by_cases h4 : (lat v.l i).has = true
    ·
     refine .inr ?_
     have h5 : ¬ ep.toNat < (lat v.l i).epoch.toNat := fun e => h2 ⟨h4, .inl e⟩
     have h6 : (lat v.l i).epoch.toNat ≠ ep.toNat := fun e => h3 ⟨h4, UInt64.toNat_inj.1 e⟩
     omega
    ·
     exact .inl (by simpa using h4)
theorem ymw : (zqk v i r ep).l.length = v.l.length := by
 rcases zkq v i r ep with h | h | h
 ·
  rw [zia h.1]
 ·
  rw [zmq h.1]; exact List.length_set
 ·
  rw [znb h.1]; exact List.length_set
theorem yah {j : Nat} (hi : i < v.l.length) (h : j ≠ i) : lat (zqk v i r ep).l j = lat v.l j := by
 rcases zkq v i r ep with e | e | e
 ·
  rw [zia e.1]
 ·
  rw [zmq e.1]; show lat (v.l.set i _) j = _; rw [zl9 hi, if_neg h]
 ·
  rw [znb e.1]; show lat (v.l.set i _) j = _; rw [zl9 hi, if_neg h]
theorem ym1 (hm : mayV v = true) (hi : i < v.l.length) : mayV (zqk v i r ep) = true := by
 have hm' := zct.1 hm
 obtain ⟨h1, h8, hok⟩ := hm'
 rcases zkq v i r ep with e | ⟨e, e1, _⟩ | ⟨e, e1, _⟩
 ·
  rw [zia e.1]; exact hm
 ·
  rw [zmq e]
  refine zct.2 ⟨by show 1 ≤ (v.l.set i _).length; rw [List.length_set]; exact h1, by show (v.l.set i _).length ≤ 8; rw [List.length_set]; exact h8, fun j hj => zd9.2 ⟨fun q => by show j < (v.l.set i _).length; rw [List.length_set]; exact (zd9.1 (hok j hj)).1 q, fun q1 q2 => ?_⟩⟩
  have q1' : j < v.l.length := by have : j < (v.l.set i (Lt.mk true r ep)).length := q1; rwa [List.length_set] at this
  show lat (v.l.set i _) j = zlt
  have q2' : hasB v.out j = true ∨ (lat (v.l.set i ⟨true, r, ep⟩) j).has = false := q2
  rw [zl9 hi] at q2' ⊢
  by_cases e2 : j = i
  ·
   subst e2; rw [if_pos rfl, e1] at q2'; rcases q2' with q | q <;> cases q
  ·
   rw [if_neg e2] at q2' ⊢; exact (zd9.1 (hok j hj)).2 q1' q2'
 ·
  rw [znb e]
  have hi64 : i < 64 := by omega
  refine zct.2 ⟨by show 1 ≤ (v.l.set i _).length; rw [List.length_set]; exact h1, by show (v.l.set i _).length ≤ 8; rw [List.length_set]; exact h8, fun j hj => zd9.2 ⟨fun q => ?_, fun q1 q2 => ?_⟩⟩
  ·
   show j < (v.l.set i _).length
   rw [List.length_set]
   have q' : hasB (v.out + bitU i) j = true := q
   rw [ycg hi64 e1, Bool.or_eq_true, decide_eq_true_iff] at q'
   rcases q' with q | q
   ·
    exact (zd9.1 (hok j hj)).1 q
   ·
    omega
  ·
   have q1' : j < v.l.length := by have : j < (v.l.set i zlt).length := q1; rwa [List.length_set] at this
   show lat (v.l.set i zlt) j = zlt
   have q2' : hasB (v.out + bitU i) j = true ∨ (lat (v.l.set i zlt) j).has = false := q2
   rw [zl9 hi] at q2' ⊢
   by_cases e2 : j = i
   ·
    rw [if_pos e2]
   ·
    rw [if_neg e2] at q2' ⊢
    rw [ycg hi64 e1, decide_eq_false (fun e => e2 e.symm), Bool.or_false] at q2'
    exact (zd9.1 (hok j hj)).2 q1' q2'
theorem ykv {z : Int} (hm : mayV v = true) (h : 0 ≤ z ∧ z < v.l.length) : putV v z r ep = zqk v z.toNat r ep ∧ zui v z r ep = zmg v z.toNat r ep ∧ zuw v z = 0 := by
 have e : inV v z = true := decide_eq_true h
 unfold putV zui zuw
 rw [if_pos ⟨hm, e⟩, if_pos ⟨hm, e⟩, if_pos hm, if_pos e]
 exact ⟨rfl, rfl, rfl⟩
theorem yf5 {z : Int} : (putV v z r ep).l.length = v.l.length := by unfold putV; split; (· exact ymw); (· rfl)
theorem drop_len {keep : List Rt} : (zjz v keep).l.length = v.l.length := by unfold zjz; split; (· simp); (· rfl)
theorem yx3 {n : Int} : (newV n).l.length ≤ 8 := by
 unfold newV
 by_cases h : zjb n = true
 ·
  have := of_decide_eq_true h
  rw [if_pos h]; simp; omega
 ·
  rw [if_neg h]; simp
theorem yru {n : Int} (h : zjb n = true) : mayV (newV n) = true ∧ (newV n).l.length = n.toNat ∧ (newV n).out = 0 ∧ ∀ i, lat (newV n).l i = zlt := by
 have h' := of_decide_eq_true h
 have e : newV n = ⟨List.replicate n.toNat zlt, 0⟩ := by unfold newV; rw [if_pos h]
 have hl : ∀ i, lat (List.replicate n.toNat zlt) i = zlt := fun i => by
  unfold lat
  rw [List.getD_eq_getElem?_getD, List.getElem?_replicate]
  split <;> rfl
 rw [e]
 refine ⟨zct.2 ⟨by simp; omega, by simp; omega, fun i _ => zd9.2 ⟨fun q => ?_, fun _ _ => hl i⟩⟩, by simp, rfl, hl⟩
 have : hasB 0 i = true := q
 rw [ynn] at this
 cases this
theorem zyl {keep : List Rt} (hm : mayV v = true) : zjz v keep = ⟨v.l.map fun x => if zsn keep x = true then x else zlt, v.out⟩ := by unfold zjz; rw [if_pos hm]
theorem zq3 {keep : List Rt} (hm : mayV v = true) (hi : i < v.l.length) : lat (zjz v keep).l i = if zsn keep (lat v.l i) = true then lat v.l i else zlt := by
 rw [zyl hm]
 show lat (v.l.map _) i = _
 rw [zti (by rw [List.length_map]; exact hi), zti hi, List.getElem_map]
theorem z5t {keep : List Rt} (hm : mayV v = true) : mayV (zjz v keep) = true := by
 obtain ⟨h1, h8, hok⟩ := zct.1 hm
 refine zct.2 ⟨by rw [drop_len]; exact h1, by rw [drop_len]; exact h8, fun j hj => zd9.2 ⟨fun q => ?_, fun q1 q2 => ?_⟩⟩
 ·
  rw [drop_len]
  rw [zyl hm] at q
  exact (zd9.1 (hok j hj)).1 q
 ·
  rw [drop_len] at q1
  rw [zq3 hm q1] at q2 ⊢
  by_cases e : zsn keep (lat v.l j) = true
  ·
   rw [if_pos e] at q2 ⊢
   refine (zd9.1 (hok j hj)).2 q1 ?_
   rw [zyl hm] at q2
   exact q2
  ·
   rw [if_neg e]
theorem drop_drop {keep : List Rt} (hm : mayV v = true) : zjz (zjz v keep) keep = zjz v keep := by
 have h2 := z5t (keep := keep) hm
 refine Vt.ext (z5q drop_len fun j hj => ?_) (by rw [zyl h2])
 rw [zq3 h2 hj]
 rw [drop_len] at hj
 rw [zq3 hm hj]
 by_cases e : zsn keep (lat v.l j) = true
 ·
  rw [if_pos e, if_pos e]
 ·
  rw [if_neg e]; split <;> rfl
end
def forB (l : List Nd) (v : Vt) (i k : Nat) : Bool := (lat v.l k).has && decide ((lat v.l k).root = (nd l i).root)
def newB (l : List Nd) (v o : Vt) (i k : Nat) : Bool := forB l v i k && decide (lat v.l k ≠ lat o.l k)
def selF (p : Nat → Bool) (f : Nat → Nat) (n : Nat) : Nat := sumF (fun k => if p k = true then f k else 0) n
theorem yla {p : Nat → Bool} {f : Nat → Nat} {n : Nat} (h : p n = true) : selF p f (n + 1) = selF p f n + f n := by
 show sumF _ n + (if p n = true then f n else 0) = _
 rw [if_pos h]; rfl
theorem ye6 {p : Nat → Bool} {f : Nat → Nat} {n : Nat} (h : p n = false) : selF p f (n + 1) = selF p f n := by
 show sumF _ n + (if p n = true then f n else 0) = _
 rw [if_neg (by rw [h]; exact Bool.false_ne_true), Nat.add_zero]; rfl
theorem yrh (p : Nat → Bool) (f : Nat → Nat) (n : Nat) : selF p f n ≤ sumF f n := z30 _ fun k _ => by split <;> omega
theorem zvd {f : Nat → Nat} {B : Nat} : ∀ n, (∀ k, k < n → f k ≤ B) → sumF f n ≤ n * B
 | 0, _ => by simp [sumF]
 | n + 1, h => by
  simp only [sumF]
  have h1 := zvd n (fun k hk => h k (by omega))
  have h2 := h n (by omega)
  rw [Nat.add_mul, Nat.one_mul]
  omega
def ownF (l : List Nd) (v : Vt) (bal : List UInt64) (i : Nat) : Nat := selF (forB l v i) (fn bal) bal.length
def zlo (l : List Nd) (v o : Vt) (bal : List UInt64) (i : Nat) : Nat := selF (newB l v o i) (fn bal) bal.length
def fitB (l : List Nd) (v : Vt) (bal : List UInt64) : Bool := decide (MayT l) && (mayV v && (mayB bal && decide (v.l.length = bal.length)))
def ownL (l : List Nd) (v : Vt) (bal : List UInt64) : List UInt64 := if fitB l v bal = true then zde (ownF l v bal) l.length else []
def wtsL (l : List Nd) (v : Vt) (bal : List UInt64) : List UInt64 := if fitB l v bal = true then subL l (ownL l v bal) else []
def ofB (l : List Nd) (was is : Vt) (bal : List UInt64) : Bool := fitB l was bal && fitB l is bal
def zix (l : List Nd) (was is : Vt) (bal : List UInt64) : List UInt64 := if ofB l was is bal = true then zde (zlo l is was bal) l.length else []
def zez (l : List Nd) (was is : Vt) (bal : List UInt64) : List UInt64 := if ofB l was is bal = true then zde (zlo l was is bal) l.length else []
section
variable {l : List Nd} {v o was is : Vt} {bal : List UInt64}
theorem zfd : fitB l v bal = true ↔ MayT l ∧ mayV v = true ∧ mayB bal = true ∧ v.l.length = bal.length := by
 unfold fitB
 rw [Bool.and_eq_true, Bool.and_eq_true, Bool.and_eq_true, decide_eq_true_iff, decide_eq_true_iff]
theorem ztk : ofB l was is bal = true ↔ fitB l was bal = true ∧ fitB l is bal = true := by unfold ofB; rw [Bool.and_eq_true]
theorem zxx (h : fitB l v bal = true) : ownL l v bal = zde (ownF l v bal) l.length := by unfold ownL; rw [if_pos h]
theorem yrc (h : fitB l v bal = false) : ownL l v bal = [] := by unfold ownL; rw [if_neg (by rw [h]; exact Bool.false_ne_true)]
theorem zmj (h : fitB l v bal = true) : wtsL l v bal = subL l (ownL l v bal) := by unfold wtsL; rw [if_pos h]
theorem yrf (h : fitB l v bal = false) : wtsL l v bal = [] := by unfold wtsL; rw [if_neg (by rw [h]; exact Bool.false_ne_true)]
theorem znm (h : ofB l was is bal = true) : zix l was is bal = zde (zlo l is was bal) l.length := by unfold zix; rw [if_pos h]
theorem z6o (h : ofB l was is bal = false) : zix l was is bal = [] := by unfold zix; rw [if_neg (by rw [h]; exact Bool.false_ne_true)]
theorem zpo (h : ofB l was is bal = true) : zez l was is bal = zde (zlo l was is bal) l.length := by unfold zez; rw [if_pos h]
theorem yg5 (h : ofB l was is bal = false) : zez l was is bal = [] := by unfold zez; rw [if_neg (by rw [h]; exact Bool.false_ne_true)]
theorem yrp (h : mayB bal = true) {k : Nat} (hk : k ≤ bal.length) : sumF (fn bal) k ≤ 8796093022208 := by
 obtain ⟨_, h2, h3⟩ := zfl.1 h
 have := zvd (f := fn bal) (B := 1099511627776) k (fun j hj => h3 j (by omega))
 omega
theorem z1b (h : mayB bal = true) (p : Nat → Bool) {k : Nat} (hk : k ≤ bal.length) : selF p (fn bal) k ≤ 8796093022208 := Nat.le_trans (yrh _ _ _) (yrp h hk)
theorem zst (h : mayB bal = true) (i : Nat) : ownF l v bal i ≤ 8796093022208 := z1b h _ (Nat.le_refl _)
theorem zom (h : mayB bal = true) (i : Nat) : zlo l v o bal i ≤ 8796093022208 := z1b h _ (Nat.le_refl _)
theorem z5u (h : fitB l v bal = true) {i : Nat} (hi : i < l.length) : fn (ownL l v bal) i = ownF l v bal i := by
 rw [zxx h]
 exact zoz hi (by have := zst (l := l) (v := v) (zfd.1 h).2.2.1 i; omega)
theorem ysm (h : ofB l was is bal = true) {i : Nat} (hi : i < l.length) : fn (zix l was is bal) i = zlo l is was bal i := by
 rw [znm h]
 exact zoz hi (by have := zom (l := l) (v := is) (o := was) (zfd.1 (ztk.1 h).1).2.2.1 i; omega)
theorem yk2 (h : ofB l was is bal = true) {i : Nat} (hi : i < l.length) : fn (zez l was is bal) i = zlo l was is bal i := by
 rw [zpo h]
 exact zoz hi (by have := zom (l := l) (v := was) (o := is) (zfd.1 (ztk.1 h).1).2.2.1 i; omega)
theorem z4i (h : fitB l v bal = true) : (ownL l v bal).length = l.length := by rw [zxx h, zfn]
theorem yj0 (h : ofB l was is bal = true) : (zix l was is bal).length = l.length := by rw [znm h, zfn]
theorem yhs (h : ofB l was is bal = true) : (zez l was is bal).length = l.length := by rw [zpo h, zfn]
theorem yfv (h : fitB l v bal = true) : zdp l (ownL l v bal) = true :=
 zdt (zfd.1 h).1 (z4i h) (b := 8796093022208) (by omega) fun k hk => by rw [z5u h hk]; exact zst (zfd.1 h).2.2.1 k
theorem zj8 (h : fitB l v bal = true) : (wtsL l v bal).length = l.length := by rw [zmj h, zfm (yfv h)]
theorem z7j (h : fitB l v bal = true) {i : Nat} (hi : i < l.length) : fn (wtsL l v bal) i = subT l (ownF l v bal) i := by
 rw [zmj h, zey (yfv h) hi]
 exact zry i fun k hk => z5u h hk
theorem ym2 (i : Nat) : ownF l was bal i + zlo l is was bal i = ownF l is bal i + zlo l was is bal i := by
 unfold ownF zlo selF
 rw [← zhh, ← zhh]
 refine zbo _ fun k _ => ?_
 unfold newB forB
 by_cases e : lat was.l k = lat is.l k
 ·
  rw [e]
 ·
  have e' : lat is.l k ≠ lat was.l k := fun h => e h.symm
  rw [decide_eq_true e, decide_eq_true e', Bool.and_true, Bool.and_true]
  omega
theorem yej (h : ofB l was is bal = true) : ze0 l (wtsL l was bal) (zix l was is bal) (zez l was is bal) = true ∧ zpd l (wtsL l was bal) (zix l was is bal) (zez l was is bal) = wtsL l is bal := by
 obtain ⟨h1, h2⟩ := ztk.1 h
 obtain ⟨hm, _, hb, _⟩ := zfd.1 h1
 obtain ⟨_, _, k1, k2⟩ := yiu hm (own := ownL l was bal) (p := zix l was is bal) (m := zez l was is bal) (is := ownL l is bal) (z4i h1) (yj0 h) (yhs h) (z4i h2) (fun k hk => by
  rw [z5u h1 hk, z5u h2 hk, ysm h hk, yk2 h hk]
  have e := ym2 (l := l) (was := was) (is := is) (bal := bal) k
  have b1 := zst (l := l) (v := was) hb k
  have b2 := zom (l := l) (v := is) (o := was) hb k
  omega)
 rw [zmj h1, zmj h2]
 exact ⟨k1, k2⟩
end
def za7 (l : List Nd) (c d : Ck) : Bool := zcj l (zay l d.root) (zay l c.root)
section
variable {l : List Nd}
theorem zc9 {c d : Ck} (h : za7 l c d = true) : ∃ i k : Nat, MayT l ∧ zay l d.root = i ∧ zay l c.root = k ∧ i < l.length ∧ k < l.length ∧ za5 l i k = true := by
 unfold za7 zcj at h
 rw [Bool.and_eq_true, Bool.and_eq_true, ziz, ziz] at h
 exact ⟨(zay l d.root).toNat, (zay l c.root).toNat, h.1.1.1, by omega, by omega, by omega, by omega, h.2⟩
theorem zjj (hm : MayT l) {c d : Ck} {i k : Nat} (hd : zay l d.root = i) (hc : zay l c.root = k) (hi : i < l.length) (hk : k < l.length) (ha : za5 l i k = true) : za7 l c d = true := by
 unfold za7
 rw [hd, hc, zeg hm hi hk]; exact ha
theorem zjk {a b c : Ck} (h : za7 l a b = true) (k : za7 l b c = true) : za7 l a c = true := by
 obtain ⟨i, j, hm, e1, e2, hi, hj, h1⟩ := zc9 h
 obtain ⟨p, q, _, e3, e4, hp, hq, h2⟩ := zc9 k
 obtain rfl : q = i := by omega
 exact zjj hm e3 e2 hp hj (zt1 hm h2 j hj h1)
theorem z3g {c d : Ck} (h : za7 l c d = true) : za7 l c c = true := by
 obtain ⟨i, j, hm, _, e2, _, hj, _⟩ := zc9 h
 exact zjj hm e2 e2 hj hj (zel hm hj)
end
section
variable {l : List Nd} {ls : List Lk} {cnt : Lk → Prop} {b : Ck}
end
section
variable (cnt : Lk → Bool)
def z57 (js : List Ck) (k : Lk) : Bool := cnt k && (decide (k.s ∈ js) && !decide (k.t ∈ js))
def zcv (ls : List Lk) (js : List Ck) : Option Lk := ls.find? (z57 cnt js)
def zfv (ls : List Lk) : Nat → List Ck → List Ck
 | 0, js => js
 | f + 1, js => match zcv cnt ls js with
  | none => js
  | some k => zfv ls f (js ++ [k.t])
def ztv (ls : List Lk) (js : List Ck) : List Ck := zfv cnt ls ls.length js
def zqf (ls : List Lk) (js : List Ck) : Nat := (ls.filter fun k => !decide (k.t ∈ js)).length
end
section
variable {cnt : Lk → Bool} {ls : List Lk}
theorem znw {js : List Ck} {k : Lk} (h : zcv cnt ls js = some k) : k ∈ ls ∧ cnt k = true ∧ k.s ∈ js ∧ k.t ∉ js := by
 have h1 := List.find?_some h
 have h2 := List.mem_of_find?_eq_some h
 unfold z57 at h1
 rw [Bool.and_eq_true, Bool.and_eq_true, decide_eq_true_iff, Bool.not_eq_true', decide_eq_false_iff_not] at h1
 exact ⟨h2, h1.1, h1.2.1, h1.2.2⟩
theorem yld {js : List Ck} (h : zcv cnt ls js = none) {k : Lk} (hk : k ∈ ls) (hc : cnt k = true) (hs : k.s ∈ js) : k.t ∈ js := by
 have := (List.find?_eq_none.1 h) k hk
 unfold z57 at this
 rw [hc, decide_eq_true hs, Bool.true_and, Bool.true_and, Bool.not_eq_true', decide_eq_false_iff_not] at this
 exact Classical.not_not.1 this
theorem zn2 {α : Type} (p q : α → Bool) (hpq : ∀ a, q a = true → p a = true) {x : α} : ∀ (l : List α), x ∈ l → p x = true → q x = false → (l.filter q).length < (l.filter p).length
 | [], hx, _, _ => by cases hx
 | a :: l, hx, h1, h2 => by
  have le : ∀ m : List α, (m.filter q).length ≤ (m.filter p).length := by
   intro m
   induction m with
   | nil => exact Nat.le_refl _
   | cons b m ih =>
    rw [List.filter_cons, List.filter_cons]
    by_cases hq : q b = true
    ·
     rw [if_pos hq, if_pos (hpq b hq), List.length_cons, List.length_cons]; omega
    ·
     rw [if_neg hq]
     split
     ·
      rw [List.length_cons]; omega
     ·
      exact ih
  rw [List.filter_cons, List.filter_cons]
  by_cases e : a = x
  ·
   subst e
   rw [if_pos h1, if_neg (by rw [h2]; exact Bool.false_ne_true), List.length_cons]
   have := le l
   omega
  ·
   have hx' : x ∈ l := (List.mem_cons.1 hx).resolve_left (fun e2 => e e2.symm)
   have ih := zn2 p q hpq l hx' h1 h2
   by_cases hq : q a = true
   ·
    rw [if_pos hq, if_pos (hpq a hq), List.length_cons, List.length_cons]; omega
   ·
    rw [if_neg hq]
    split
    ·
     rw [List.length_cons]; omega
    ·
     exact ih
theorem zgw {js : List Ck} {k : Lk} (h : zcv cnt ls js = some k) : zqf ls (js ++ [k.t]) < zqf ls js := by
 obtain ⟨h1, _, _, h4⟩ := znw h
 refine zn2 _ _ (fun a ha => ?_) ls h1 ?_ ?_
 ·
  rw [Bool.not_eq_true', decide_eq_false_iff_not] at *
  exact fun e => ha (List.mem_append_left _ e)
 ·
  rw [Bool.not_eq_true', decide_eq_false_iff_not]; exact h4
 ·
  rw [Bool.not_eq_false', decide_eq_true_iff]; simp
theorem zxz (js : List Ck) : zqf ls js ≤ ls.length := List.length_filter_le _ _
theorem zlu : ∀ (f : Nat) (js : List Ck), zqf ls js ≤ f → zcv cnt ls (zfv cnt ls f js) = none
 | 0, js, h => by
  cases e : zcv cnt ls js with
  | none => exact e
  | some k => have := zgw e; omega
 | f + 1, js, h => by
  cases e : zcv cnt ls js with
  | none => simp only [zfv, e]
  | some k =>
   have := zgw e
   simp only [zfv, e]
   exact zlu f _ (by omega)
theorem zeq {js : List Ck} (h : zcv cnt ls js = none) (f : Nat) : zfv cnt ls f js = js := by
 cases f with
 | zero => rfl
 | succ f => simp only [zfv, h]
theorem yc9 (js : List Ck) : ztv cnt ls (ztv cnt ls js) = ztv cnt ls js := zeq (zlu _ _ (zxz js)) _
theorem zzi : ∀ (f g : Nat) (js : List Ck), zqf ls js ≤ f → zqf ls js ≤ g → zfv cnt ls f js = zfv cnt ls g js
 | 0, g, js, h, _ => by
  cases e : zcv cnt ls js with
  | none => rw [zeq e, zeq e]
  | some k => have := zgw e; omega
 | f + 1, 0, js, _, h => by
  cases e : zcv cnt ls js with
  | none => rw [zeq e, zeq e]
  | some k => have := zgw e; omega
 | f + 1, g + 1, js, h1, h2 => by
  cases e : zcv cnt ls js with
  | none => rw [zeq e, zeq e]
  | some k =>
   have := zgw e
   simp only [zfv, e]
   exact zzi f g _ (by omega) (by omega)
theorem yco {js : List Ck} {k : Lk} (h : zcv cnt ls js = some k) : ztv cnt ls js = ztv cnt ls (js ++ [k.t]) := by
 have := zgw h
 have h1 := zxz (ls := ls) js
 obtain ⟨f, hf⟩ : ∃ f, ls.length = f + 1 := ⟨ls.length - 1, by omega⟩
 unfold ztv
 rw [hf]
 rw [show zfv cnt ls (f + 1) js = zfv cnt ls f (js ++ [k.t]) by simp only [zfv, h]]
 exact zzi _ _ _ (by omega) (by omega)
theorem zv0 : ∀ (f : Nat) (js : List Ck), ∃ ext, zfv cnt ls f js = js ++ ext ∧ ∀ i, i < ext.length → ∃ k, k ∈ ls ∧ cnt k = true ∧ k.s ∈ js ++ ext.take i ∧ some k.t = ext[i]? ∧ k.t ∉ js ++ ext.take i
 | 0, js => ⟨[], by simp [zfv], fun i hi => by simp at hi⟩
 | f + 1, js => by
  cases e : zcv cnt ls js with
  | none => exact ⟨[], by simp [zfv, e], fun i hi => by simp at hi⟩
  | some k =>
   obtain ⟨h1, h2, h3, h4⟩ := znw e
   obtain ⟨ext, he, hall⟩ := zv0 f (js ++ [k.t])
   refine ⟨k.t :: ext, by simp only [zfv, e]; rw [he]; simp, fun i hi => ?_⟩
   cases i with
   | zero => exact ⟨k, h1, h2, by simpa using h3, rfl, by simpa using h4⟩
   | succ i =>
    obtain ⟨m, a, b, c, d, g⟩ := hall i (by simpa using hi)
    exact ⟨m, a, b, by simpa using c, by simpa using d, by simpa using g⟩
def ydp (cnt : Lk → Bool) (ls : List Lk) (js : List Ck) (c : Ck) : Bool := ls.any fun k => cnt k && (decide (k.t ∈ js) && (decide (k.s = c) && decide (k.t.epoch.toNat = c.epoch.toNat + 1)))
def zt3 (cnt : Lk → Bool) (ls : List Lk) (js : List Ck) : List Ck := js.filter (ydp cnt ls js)
def betC (lt : Rt → Rt → Bool) (a b : Ck) : Bool := decide (a.epoch.toNat < b.epoch.toNat) || (decide (b.epoch = a.epoch) && lt a.root b.root)
def zf6 (lt : Rt → Rt → Bool) (ok : Ck → Bool) : List Ck → Ck → Ck
 | [], o => o
 | c :: cs, o => zf6 lt ok cs (if (ok c && betC lt o c) = true then c else o)
theorem zib (lt : Rt → Rt → Bool) (ok : Ck → Bool) : ∀ (cs : List Ck) (o : Ck), (zf6 lt ok cs o = o ∨ (zf6 lt ok cs o ∈ cs ∧ ok (zf6 lt ok cs o) = true)) ∧ o.epoch.toNat ≤ (zf6 lt ok cs o).epoch.toNat ∧ ∀ c, c ∈ cs → ok c = true → c.epoch.toNat ≤ (zf6 lt ok cs o).epoch.toNat
 | [], o => ⟨.inl rfl, Nat.le_refl _, fun c hc => (by cases hc)⟩
 | c :: cs, o => by
  rw [show zf6 lt ok (c :: cs) o = zf6 lt ok cs (if (ok c && betC lt o c) = true then c else o) from rfl]
  by_cases h : (ok c && betC lt o c) = true
  ·
   rw [if_pos h]
   rw [Bool.and_eq_true] at h
   have hle : o.epoch.toNat ≤ c.epoch.toNat := by
    have := h.2
    unfold betC at this
    rw [Bool.or_eq_true, Bool.and_eq_true, decide_eq_true_iff, decide_eq_true_iff] at this
    rcases this with e | e
    ·
     omega
    ·
     rw [e.1]; exact Nat.le_refl _
   obtain ⟨h1, h2, h3⟩ := zib lt ok cs c
   refine ⟨.inr ?_, by omega, fun d hd hok => ?_⟩
   ·
    rcases h1 with e | e
    ·
     rw [e]; exact ⟨List.mem_cons_self, h.1⟩
    ·
     exact ⟨List.mem_cons_of_mem _ e.1, e.2⟩
   ·
    rcases List.mem_cons.1 hd with rfl | hd
    ·
     exact h2
    ·
     exact h3 d hd hok
  ·
   rw [if_neg h]
   obtain ⟨h1, h2, h3⟩ := zib lt ok cs o
   refine ⟨h1.imp id fun e => ⟨List.mem_cons_of_mem _ e.1, e.2⟩, h2, fun d hd hok => ?_⟩
   rcases List.mem_cons.1 hd with rfl | hd
   ·
    have : betC lt o d = false := by
     rw [← Bool.not_eq_true]; intro e; exact h (by rw [hok, e]; rfl)
    unfold betC at this
    rw [Bool.or_eq_false_iff, decide_eq_false_iff_not] at this
    omega
   ·
    exact h3 d hd hok
def zg3 (l : List Nd) (cs : List Ck) : Bool := decide (MayT l) && decide (∀ i, i < cs.length → ∀ k, k < i → za7 l (cs.getD i zcc) (cs.getD k zcc) = true ∨ za7 l (cs.getD k zcc) (cs.getD i zcc) = true)
theorem yjd {l : List Nd} (hm : MayT l) {cs : List Ck} (h : ∀ c d, c ∈ cs → d ∈ cs → za7 l c d = true ∨ za7 l d c = true) : zg3 l cs = true := by
 unfold zg3
 rw [Bool.and_eq_true, decide_eq_true_iff, decide_eq_true_iff]
 have hin : ∀ i, i < cs.length → cs.getD i zcc ∈ cs := fun i hi => by
  rw [List.getD_eq_getElem?_getD, List.getElem?_eq_getElem hi]
  exact List.getElem_mem hi
 exact ⟨hm, fun i hi k hk => h _ _ (hin i hi) (hin k (by omega))⟩
end
theorem zcm {ls : List Lk} {i : Nat} (h : i < ls.length) : lkAt ls i = ls[i] := by simp [lkAt, h]
theorem z5z {ls : List Lk} {i : Nat} (h : i < ls.length) : lkAt ls i ∈ ls := by rw [zcm h]; exact List.getElem_mem h
theorem ygc {a b : List Lk} (hl : a.length = b.length) (h : ∀ i, i < b.length → lkAt a i = lkAt b i) : a = b := by
 refine List.ext_getElem hl fun i h1 h2 => ?_
 have := h i h2
 rwa [zcm h1, zcm h2] at this
theorem ymx {a b : List Lk} {i : Nat} (h : i < a.length) : lkAt (a ++ b) i = lkAt a i := by
 rw [zcm h, zcm (by rw [List.length_append]; omega), List.getElem_append_left h]
theorem yhe {a : List Lk} {x : Lk} : lkAt (a ++ [x]) a.length = x := by
 rw [zcm (by rw [List.length_append]; simp)]; simp
theorem zy5 {a : List Lk} {i k : Nat} {x : Lk} (h : i < a.length) : lkAt (a.set i x) k = if k = i then x else lkAt a k := by
 unfold lkAt
 rw [List.getD_eq_getElem?_getD, List.getD_eq_getElem?_getD, List.getElem?_set]
 by_cases e : k = i
 ·
  subst e; rw [if_pos rfl, if_pos rfl, if_pos h]; rfl
 ·
  rw [if_neg (fun h => e h.symm), if_neg e]
def okK (x : Lk) : Prop := x.s.epoch.toNat < x.t.epoch.toNat ∧ 1 ≤ x.mask.toNat ∧ x.mask.toNat ≤ 255
instance (x : Lk) : Decidable (okK x) := by unfold okK; exact inferInstance
def MayK (l : List Lk) (n : Nat) : Prop := ∀ i, i < n → okK (lkAt l i) ∧ ∀ k, k < i → oneB (lkAt l i) (lkAt l k) = false
instance (l : List Lk) (n : Nat) : Decidable (MayK l n) := by unfold MayK; exact inferInstance
def mayL (l : List Lk) : Bool := decide (MayK l l.length ∧ l.length ≤ 16)
theorem zex {l : List Lk} : mayL l = true ↔ MayK l l.length ∧ l.length ≤ 16 := by unfold mayL; rw [decide_eq_true_iff]
theorem zm2 {a b : Lk} : oneB a b = true ↔ a.s = b.s ∧ a.t = b.t := by unfold oneB; rw [decide_eq_true_iff]
theorem yhx (a b : Lk) : oneB a b = oneB b a := by
 rw [Bool.eq_iff_iff, zm2, zm2]
 exact ⟨fun h => ⟨h.1.symm, h.2.symm⟩, fun h => ⟨h.1.symm, h.2.symm⟩⟩
theorem ypm {l : List Lk} {n i k : Nat} (h : MayK l n) (hi : i < n) (hk : k < n) (e : oneB (lkAt l i) (lkAt l k) = true) : i = k := by
 rcases Nat.lt_trichotomy i k with h1 | h1 | h1
 ·
  have := (h k hk).2 i h1
  rw [yhx, e] at this; cases this
 ·
  exact h1
 ·
  have := (h i hi).2 k h1
  rw [e] at this; cases this
def isK (s t : Ck) (x : Lk) : Bool := decide (x.s = s ∧ x.t = t)
def atK (l : List Lk) (s t : Ck) : Nat := l.findIdx (isK s t)
def bitK (v : Int) : UInt64 := UInt64.ofNat (bitN v)
theorem z7i (v : Int) : (bitK v).toNat = bitN v := by
 unfold bitK
 rw [UInt64.toNat_ofNat', Nat.mod_eq_of_lt (yq6 v)]
def errK (l : List Lk) (s t : Ck) (v : Int) : Nat :=
 if mayL l = true then (if 0 ≤ v ∧ v < 8 then (if s.epoch.toNat < t.epoch.toNat then (if atK l s t < l.length then 0 else if l.length = 16 then 3 else 0) else 9) else 10) else 1
def putK (l : List Lk) (s t : Ck) (v : Int) : List Lk :=
 if errK l s t v = 0 then (if atK l s t < l.length then l.set (atK l s t) { lkAt l (atK l s t) with mask := (lkAt l (atK l s t)).mask ||| bitK v } else l ++ [⟨s, t, bitK v⟩]) else l
def whoK (l : List Lk) (s t : Ck) : UInt64 := if atK l s t < l.length then (lkAt l (atK l s t)).mask else 0
section
variable {l : List Lk} {s t : Ck} {v : Int}
theorem zpg {x : Lk} : isK s t x = true ↔ x.s = s ∧ x.t = t := by unfold isK; rw [decide_eq_true_iff]
theorem yxp : atK l s t ≤ l.length := List.findIdx_le_length
theorem zrl (h : atK l s t < l.length) : isK s t (lkAt l (atK l s t)) = true := by
 rw [zcm h]; exact List.findIdx_getElem
theorem znv {k : Nat} (h : k < atK l s t) : isK s t (lkAt l k) = false := by
 have h2 : k < l.length := Nat.lt_of_lt_of_le h yxp
 rw [zcm h2]
 have := List.not_of_lt_findIdx h
 simpa using this
theorem z71 {i : Nat} (hi : i < l.length) (h : isK s t (lkAt l i) = true) (ha : ∀ k, k < i → isK s t (lkAt l k) = false) : atK l s t = i := by
 rcases Nat.lt_trichotomy (atK l s t) i with h1 | h1 | h1
 ·
  have := ha _ h1
  rw [zrl (by omega)] at this; cases this
 ·
  exact h1
 ·
  have := znv h1
  rw [h] at this; cases this
theorem yf6 (h : mayL l = false) : errK l s t v = 1 := by unfold errK; rw [if_neg (by rw [h]; exact Bool.false_ne_true)]
theorem z49 (h : mayL l = true) (hv : ¬ (0 ≤ v ∧ v < 8)) : errK l s t v = 10 := by unfold errK; rw [if_pos h, if_neg hv]
theorem z6d (h : mayL l = true) (hv : 0 ≤ v ∧ v < 8) (he : ¬ s.epoch.toNat < t.epoch.toNat) : errK l s t v = 9 := by unfold errK; rw [if_pos h, if_pos hv, if_neg he]
theorem zrc (h : mayL l = true) (hv : 0 ≤ v ∧ v < 8) (he : s.epoch.toNat < t.epoch.toNat) (ha : atK l s t < l.length) : errK l s t v = 0 := by unfold errK; rw [if_pos h, if_pos hv, if_pos he, if_pos ha]
theorem z7z (h : mayL l = true) (hv : 0 ≤ v ∧ v < 8) (he : s.epoch.toNat < t.epoch.toNat) (ha : ¬ atK l s t < l.length) (hl : l.length = 16) : errK l s t v = 3 := by unfold errK; rw [if_pos h, if_pos hv, if_pos he, if_neg ha, if_pos hl]
theorem yp2 (h : mayL l = true) (hv : 0 ≤ v ∧ v < 8) (he : s.epoch.toNat < t.epoch.toNat) (ha : ¬ atK l s t < l.length) (hl : ¬ l.length = 16) : errK l s t v = 0 := by unfold errK; rw [if_pos h, if_pos hv, if_pos he, if_neg ha, if_neg hl]
theorem yin (h : errK l s t v = 0) : mayL l = true ∧ (0 ≤ v ∧ v < 8) ∧ s.epoch.toNat < t.epoch.toNat ∧ (atK l s t < l.length ∨ l.length < 16) := by
 have hm : mayL l = true := by
  cases e : mayL l
  ·
   rw [yf6 e] at h; omega
  ·
   rfl
 have hl := (zex.1 hm).2
 by_cases hv : 0 ≤ v ∧ v < 8
 ·
  by_cases he : s.epoch.toNat < t.epoch.toNat
  ·
   refine ⟨hm, hv, he, ?_⟩
   by_cases ha : atK l s t < l.length
   ·
    exact .inl ha
   ·
    refine .inr ?_
    by_cases hq : l.length = 16
    ·
     rw [z7z hm hv he ha hq] at h; omega
    ·
     omega
  ·
   rw [z6d hm hv he] at h; omega
 ·
  rw [z49 hm hv] at h; omega
theorem zpi (h : errK l s t v ≠ 0) : putK l s t v = l := by unfold putK; rw [if_neg h]
theorem zkf (h : errK l s t v = 0) (ha : atK l s t < l.length) : putK l s t v = l.set (atK l s t) { lkAt l (atK l s t) with mask := (lkAt l (atK l s t)).mask ||| bitK v } := by unfold putK; rw [if_pos h, if_pos ha]
theorem z5h (h : errK l s t v = 0) (ha : ¬ atK l s t < l.length) : putK l s t v = l ++ [⟨s, t, bitK v⟩] := by unfold putK; rw [if_pos h, if_neg ha]
theorem yl9 : (putK l s t v).length ≤ l.length + 1 := by
 unfold putK
 split
 ·
  split
  ·
   rw [List.length_set]; omega
  ·
   rw [List.length_append]; simp
 ·
  omega
theorem zr8 (hv : 0 ≤ v ∧ v < 8) : 1 ≤ (bitK v).toNat ∧ (bitK v).toNat < 2 ^ 8 := by
 obtain ⟨n, rfl⟩ : ∃ n : Nat, v = n := ⟨v.toNat, by omega⟩
 rw [z7i, zq9 (by omega)]
 exact ⟨Nat.two_pow_pos n, Nat.pow_lt_pow_right (by decide) (by omega)⟩
theorem yp7 {a b : UInt64} (ha : a.toNat ≤ 255) (hb : 1 ≤ b.toNat ∧ b.toNat < 2 ^ 8) : 1 ≤ (a ||| b).toNat ∧ (a ||| b).toNat ≤ 255 := by
 rw [UInt64.toNat_or]
 have h1 := Nat.or_lt_two_pow (show a.toNat < 2 ^ 8 by omega) hb.2
 have h2 : b.toNat ≤ a.toNat ||| b.toNat := Nat.right_le_or
 omega
theorem yqq (h : errK l s t v = 0) :
  (∀ i, i < l.length → i < (putK l s t v).length ∧ (lkAt (putK l s t v) i).s = (lkAt l i).s ∧ (lkAt (putK l s t v) i).t = (lkAt l i).t ∧ (isK s t (lkAt l i) = false → (lkAt (putK l s t v) i).mask = (lkAt l i).mask) ∧ (isK s t (lkAt l i) = true → (lkAt (putK l s t v) i).mask = (lkAt l i).mask ||| bitK v)) ∧
  mayL (putK l s t v) = true ∧ errK (putK l s t v) s t v = 0 ∧ putK (putK l s t v) s t v = putK l s t v ∧ whoK (putK l s t v) s t = whoK l s t ||| bitK v := by
 obtain ⟨hm, hv, he, hr⟩ := yin h
 obtain ⟨hk, h16⟩ := zex.1 hm
 by_cases ha : atK l s t < l.length
 ·
  have hp := zkf h ha
  have his := zpg.1 (zrl ha)
  obtain ⟨a, hae⟩ : ∃ a, a = atK l s t := ⟨_, rfl⟩
  rw [← hae] at ha hp his
  obtain ⟨y, hy⟩ : ∃ y : Lk, y = { lkAt l a with mask := (lkAt l a).mask ||| bitK v } := ⟨_, rfl⟩
  rw [← hy] at hp
  have ys : y.s = (lkAt l a).s := by rw [hy]
  have yt : y.t = (lkAt l a).t := by rw [hy]
  have ym : y.mask = (lkAt l a).mask ||| bitK v := by rw [hy]
  have hat : ∀ i, lkAt (putK l s t v) i = if i = a then y else lkAt l i := fun i => by rw [hp]; exact zy5 ha
  have hst : ∀ i, (lkAt (putK l s t v) i).s = (lkAt l i).s ∧ (lkAt (putK l s t v) i).t = (lkAt l i).t := fun i => by
   rw [hat]
   by_cases e : i = a
   ·
    rw [if_pos e, e]; exact ⟨ys, yt⟩
   ·
    rw [if_neg e]; exact ⟨rfl, rfl⟩
  have hlen : (putK l s t v).length = l.length := by rw [hp, List.length_set]
  have hone : ∀ i k, oneB (lkAt (putK l s t v) i) (lkAt (putK l s t v) k) = oneB (lkAt l i) (lkAt l k) := fun i k => by
   unfold oneB
   rw [(hst i).1, (hst i).2, (hst k).1, (hst k).2]
  have hisK : ∀ i, isK s t (lkAt (putK l s t v) i) = isK s t (lkAt l i) := fun i => by unfold isK; rw [(hst i).1, (hst i).2]
  have hmay : mayL (putK l s t v) = true := by
   refine zex.2 ⟨fun i hi => ?_, by omega⟩
   rw [hlen] at hi
   obtain ⟨⟨o1, o2, o3⟩, o4⟩ := hk i hi
   refine ⟨⟨by rw [(hst i).1, (hst i).2]; exact o1, ?_⟩, fun k hki => by rw [hone]; exact o4 k hki⟩
   rw [hat]
   by_cases e : i = a
   ·
    rw [if_pos e, ym]
    exact yp7 (hk a ha).1.2.2 (zr8 hv)
   ·
    rw [if_neg e]; exact ⟨o2, o3⟩
  have hata : atK (putK l s t v) s t = a := z71 (by omega) (by rw [hisK, hae]; exact zrl (by omega)) (fun k hk' => by rw [hisK]; exact znv (by omega))
  have herr : errK (putK l s t v) s t v = 0 := zrc hmay hv he (by omega)
  refine ⟨fun i hi => ⟨by omega, (hst i).1, (hst i).2, fun e => ?_, fun e => ?_⟩, hmay, herr, ?_, ?_⟩
  ·
   rw [hat, if_neg (fun h => by rw [h, hae, zrl (by omega)] at e; cases e)]
  ·
   have : i = a := ypm hk hi ha (zm2.2 ⟨(zpg.1 e).1.trans his.1.symm, (zpg.1 e).2.trans his.2.symm⟩)
   rw [hat, if_pos this, ym, this]
  ·
   have hp2 := zkf herr (by omega)
   rw [hata] at hp2
   rw [hp2, hat, if_pos rfl]
   have e2 : ({ y with mask := y.mask ||| bitK v } : Lk) = y := by
    refine Lk.ext rfl rfl ?_
    show y.mask ||| bitK v = y.mask
    rw [ym]
    refine zym fun i => ?_
    simp only [z7k, Bool.or_assoc, Bool.or_self]
   rw [e2]
   refine ygc (by rw [List.length_set]) fun i hi => ?_
   rw [zy5 (by omega), hat]
   split <;> rfl
  ·
   unfold whoK
   rw [hata, if_pos (by omega), ← hae, if_pos ha, hat, if_pos rfl, ym]
 ·
  have hp := z5h h ha
  have hr' : l.length < 16 := hr.resolve_left ha
  have hnone : ∀ k, k < l.length → isK s t (lkAt l k) = false := fun k hk => znv (by omega)
  have hlen : (putK l s t v).length = l.length + 1 := by rw [hp, List.length_append]; rfl
  have hat : ∀ i, i < l.length → lkAt (putK l s t v) i = lkAt l i := fun i hi => by rw [hp]; exact ymx hi
  have hlast : lkAt (putK l s t v) l.length = ⟨s, t, bitK v⟩ := by rw [hp]; exact yhe
  have hmay : mayL (putK l s t v) = true := by
   refine zex.2 ⟨fun i hi => ?_, by omega⟩
   by_cases e : i < l.length
   ·
    rw [hat i e]
    exact ⟨(hk i e).1, fun k hki => by rw [hat k (by omega)]; exact (hk i e).2 k hki⟩
   ·
    obtain rfl : i = l.length := by omega
    rw [hlast]
    refine ⟨⟨he, (zr8 hv).1, by have := (zr8 hv).2; show (bitK v).toNat ≤ 255; omega⟩, fun k hki => ?_⟩
    rw [hat k hki, ← Bool.not_eq_true, zm2]
    intro h2
    have := hnone k hki
    rw [zpg.2 ⟨h2.1.symm, h2.2.symm⟩] at this; cases this
  have hata : atK (putK l s t v) s t = l.length := z71 (by omega) (by rw [hlast]; exact zpg.2 ⟨rfl, rfl⟩) (fun k hk' => by rw [hat k hk']; exact hnone k hk')
  have herr : errK (putK l s t v) s t v = 0 := zrc hmay hv he (by omega)
  refine ⟨fun i hi => ⟨by omega, by rw [hat i hi], by rw [hat i hi], fun _ => by rw [hat i hi], fun e => ?_⟩, hmay, herr, ?_, ?_⟩
  ·
   rw [hnone i hi] at e; cases e
  ·
   have hp2 := zkf herr (by omega)
   rw [hata] at hp2
   rw [hp2, hlast]
   have e2 : ({ (⟨s, t, bitK v⟩ : Lk) with mask := bitK v ||| bitK v } : Lk) = ⟨s, t, bitK v⟩ := by
    refine Lk.ext rfl rfl (zym fun i => ?_)
    show (bitK v ||| bitK v).toNat.testBit i = (bitK v).toNat.testBit i
    rw [z7k, Bool.or_self]
   show (putK l s t v).set l.length ({ (⟨s, t, bitK v⟩ : Lk) with mask := bitK v ||| bitK v } : Lk) = _
   rw [e2]
   refine ygc (by rw [List.length_set]) fun i hi => ?_
   rw [zy5 (by omega)]
   split
   ·
    rename_i e; rw [e, hlast]
   ·
    rfl
  ·
   unfold whoK
   rw [hata, if_pos (by omega), if_neg ha, hlast]
   refine zym fun i => ?_
   rw [z7k]
   simp
end
def ckAt (l : List Ck) (i : Nat) : Ck := l.getD i zcc
end Go.Proofs.YtmihlihlpdkdcaaGreat
