import Derived.Test.YtmihlihlpdkdcaaGreatQ03
import Derived.Below
import Derived.Test.YtmihlihlpdkdcaaGreatQ05
namespace Go.Proofs.YtmihlihlpdkdcaaGreat
open Go.RowKit
set_option maxRecDepth 200000
set_option maxHeartbeats 64000000
section
variable {l : List Nd}
theorem zg6 (x : Nd) {i : Nat} (h : i < l.length) : nd (l ++ [x]) i = nd l i := by
 unfold nd
 simp only [List.getD_eq_getElem?_getD]
 rw [List.getElem?_append_left h]
theorem zrr (x : Nd) : nd (l ++ [x]) l.length = x := by
 unfold nd
 simp
def posR (l : List Nd) (r : Rt) : Nat := l.findIdx fun n => decide (n.root = r)
def zay (l : List Nd) (r : Rt) : Int := if MayT l ∧ posR l r < l.length then posR l r else -1
theorem yqv {r : Rt} (h : posR l r < l.length) : (nd l (posR l r)).root = r := by
 rw [ztc l h]
 have : (fun n : Nd => decide (n.root = r)) (l[posR l r]'h) = true := List.findIdx_getElem (w := h)
 simpa using this
theorem z43 {r : Rt} {i : Nat} (hi : i < posR l r) (hl : i < l.length) : (nd l i).root ≠ r := by
 rw [ztc l hl]
 have := List.not_of_lt_findIdx hi
 simpa using this
theorem ze3 (h : MayT l) (r : Rt) : (∃ i : Nat, i < l.length ∧ zay l r = i ∧ (nd l i).root = r) ∨ (zay l r = -1 ∧ ∀ i, i < l.length → (nd l i).root ≠ r) := by
 by_cases hp : posR l r < l.length
 ·
  exact .inl ⟨_, hp, by unfold zay; rw [if_pos ⟨h, hp⟩], yqv hp⟩
 ·
  exact .inr ⟨by unfold zay; rw [if_neg (fun e => hp e.2)], fun i hi => z43 (by omega) hi⟩
theorem zl6 (h : MayT l) {i : Nat} (hi : i < l.length) : zay l (nd l i).root = i := by
 rcases ze3 h (nd l i).root with ⟨k, hk, e, hr⟩ | ⟨_, hn⟩
 ·
  rw [e, h.roots hk hi hr]
 ·
  exact absurd rfl (hn i hi)
theorem yle (h : ¬ MayT l) (r : Rt) : zay l r = -1 := by unfold zay; rw [if_neg (fun e => h e.1)]
theorem yd9 (r : Rt) : -1 ≤ zay l r := by unfold zay; split <;> omega
def insE (l : List Nd) (r p : Rt) (s : UInt64) : Nat :=
 if ¬ MayT l then 1 else if 0 ≤ zay l r then 4 else if zay l p < 0 then 5 else if s.toNat ≤ sl l (zay l p).toNat ∨ 1099511627776 < s.toNat then 6 else if l.length = 12 then 3 else 0
def insN (l : List Nd) (r p : Rt) (s j : UInt64) : Nd := ⟨r, zay l p, s, j⟩
def insL (l : List Nd) (r p : Rt) (s j : UInt64) : List Nd := if insE l r p s = 0 then l ++ [insN l r p s j] else l
theorem zsx {r p : Rt} {s : UInt64} (h : insE l r p s = 0) : MayT l ∧ zay l r = -1 ∧ (∃ q : Nat, zay l p = q ∧ q < l.length ∧ (nd l q).root = p ∧ sl l q < s.toNat) ∧ s.toNat ≤ 1099511627776 ∧ l.length < 12 := by
 unfold insE at h
 split at h
 ·
  cases h
 ·
  rename_i hm
  have hm : MayT l := Classical.not_not.1 hm
  split at h
  ·
   cases h
  ·
   split at h
   ·
    cases h
   ·
    split at h
    ·
     cases h
    ·
     split at h
     ·
      cases h
     ·
      rename_i h1 h2 h3 h4
      rcases ze3 hm p with ⟨q, hq, e, hr⟩ | ⟨e, _⟩
      ·
       refine ⟨hm, ?_, ⟨q, e, hq, hr, ?_⟩, by omega, by have := hm.le; omega⟩
       ·
        have := yd9 (l := l) r; omega
       ·
        rw [e] at h3
        have : (q : Int).toNat = q := by omega
        rw [this] at h3
        omega
      ·
       omega
theorem ylh (h : MayT l) {x : Nd} (hl : l.length < 12) (hs : x.slot.toNat ≤ 1099511627776) {q : Nat} (hq : q < l.length) (hp : x.parent = q) (hsl : sl l q < x.slot.toNat) (hr : ∀ i, i < l.length → (nd l i).root ≠ x.root) : MayT (l ++ [x]) := by
 refine ⟨by simp, by simp; omega, fun i hi => ?_⟩
 simp at hi
 by_cases e : i < l.length
 ·
  obtain ⟨h1, h2, h3, h4⟩ := h.2.2 i e
  refine ⟨?_, ?_, fun h0 => ?_, fun k hk => ?_⟩
  ·
   unfold sl; rw [zg6 x e]; exact h1
  ·
   rw [zg6 x e]; exact h2
  ·
   obtain ⟨a, b, c⟩ := h3 h0
   unfold up sl at *
   rw [zg6 x e]
   refine ⟨a, b, ?_⟩
   rw [zg6 x (show (nd l i).parent.toNat < l.length by omega)]
   exact c
  ·
   rw [zg6 x e, zg6 x (by omega)]; exact h4 k hk
 ·
  obtain rfl : i = l.length := by omega
  refine ⟨?_, fun h0 => ?_, fun _ => ?_, fun k hk => ?_⟩
  ·
   unfold sl; rw [zrr]; exact hs
  ·
   have := h.pos; omega
  ·
   unfold up sl
   rw [zrr, hp]
   refine ⟨by omega, by omega, ?_⟩
   rw [show (q : Int).toNat = q by omega, zg6 x hq]
   exact hsl
  ·
   rw [zrr, zg6 x hk]; exact hr k hk
theorem zxn {r p : Rt} {s : UInt64} (j : UInt64) (h : insE l r p s = 0) : MayT (l ++ [insN l r p s j]) := by
 obtain ⟨hm, hr, ⟨q, e, hq, _, hsl⟩, hs, hl⟩ := zsx h
 refine ylh hm hl hs hq e hsl fun i hi he => ?_
 have := zl6 hm hi
 rw [he] at this
 have : zay l r = i := this
 omega
theorem z1z {r p : Rt} {s : UInt64} (j : UInt64) (h : insE l r p s = 0) : insE (l ++ [insN l r p s j]) r p s = 4 ∧ zay (l ++ [insN l r p s j]) r = l.length := by
 have hm := zxn j h
 have hf : zay (l ++ [insN l r p s j]) r = l.length := by
  have := zl6 hm (i := l.length) (by simp)
  rw [zrr] at this
  exact this
 refine ⟨?_, hf⟩
 unfold insE
 rw [if_neg (Classical.not_not.2 hm), if_pos (by rw [hf]; omega)]
theorem yq9 (x : Nd) {i : Nat} (h : i < l.length) : up (l ++ [x]) i = up l i := by unfold up; rw [zg6 x h]
theorem zv2 {x : Nd} (h : MayT l) (h' : MayT (l ++ [x])) (i : Nat) : ∀ k, k < l.length → za5 (l ++ [x]) i k = za5 l i k := by
 intro k
 induction k using Nat.strongRecOn with
 | _ k ih =>
  intro hk
  by_cases h0 : k = 0
  ·
   subst h0; rw [zb4, zb4]
  ·
   obtain ⟨_, hu, _⟩ := h.par (Nat.pos_of_ne_zero h0) hk
   rw [zqv h' i (Nat.pos_of_ne_zero h0) (by simp; omega), zqv h i (Nat.pos_of_ne_zero h0) hk, yq9 x hk, ih _ hu (by omega)]
theorem zuq {x : Nd} (h' : MayT (l ++ [x])) {i : Nat} (hi : i < l.length) : za5 (l ++ [x]) l.length i = false := by
 rw [← Bool.not_eq_true]
 intro e
 have := zho h' _ i (by simp; omega) e
 omega
def z8m (l : List Nd) (i : Nat) : List Nat := (List.range l.length).filter fun k => decide ((nd l k).parent = (i : Int))
theorem z51 {i k : Nat} : k ∈ z8m l i ↔ k < l.length ∧ (nd l k).parent = (i : Int) := by
 unfold z8m; rw [List.mem_filter, List.mem_range, decide_eq_true_iff]
theorem ymj (h : MayT l) {i k : Nat} (hk : k ∈ z8m l i) : i < k ∧ sl l i < sl l k ∧ up l k = i := by
 obtain ⟨h1, h2⟩ := z51.1 hk
 by_cases h0 : k = 0
 ·
  subst h0; rw [h.first] at h2; omega
 ·
  obtain ⟨e, hu, hs⟩ := h.par (Nat.pos_of_ne_zero h0) h1
  have : up l k = i := by omega
  rw [this] at hu hs
  exact ⟨hu, hs, this⟩
theorem yfd {x : Nd} (h' : MayT (l ++ [x])) : z8m (l ++ [x]) l.length = [] := by
 rw [List.eq_nil_iff_forall_not_mem]
 intro k hk
 have h1 := (z51.1 hk).1
 have h2 := (ymj h' hk).1
 simp at h1
 omega
end
section
variable (p : Nat → Bool)
def zhx (k : Nat) : Nat := ((List.range k).filter p).length
theorem z3t {k n : Nat} (h : k ≤ n) : List.range n = List.range k ++ List.range' k (n - k) := by
 have e : n = k + (n - k) := by omega
 have := List.range'_append_1 (s := 0) (m := k) (n := n - k)
 rw [Nat.zero_add, ← e] at this
 rw [List.range_eq_range', List.range_eq_range', this]
theorem zye {k n : Nat} (h : k < n) (hp : p k = true) : ((List.range n).filter p)[zhx p k]? = some k := by
 unfold zhx
 rw [z3t (Nat.le_of_lt h), List.filter_append, List.getElem?_append_right (Nat.le_refl _), Nat.sub_self]
 rw [show n - k = (n - k - 1) + 1 by omega, List.range'_succ, List.filter_cons, if_pos hp]
 rfl
theorem yig {k n : Nat} (h : k < n) (hp : p k = true) : zhx p k < ((List.range n).filter p).length := (List.getElem?_eq_some_iff.1 (zye p h hp)).1
theorem zka {a b : Nat} (h : a < b) (hp : p a = true) : zhx p a < zhx p b := yig p h hp
theorem zyq {a b : Nat} (ha : p a = true) (hb : p b = true) (e : zhx p a = zhx p b) : a = b := by
 rcases Nat.lt_trichotomy a b with h | h | h
 ·
  have := zka p h ha; omega
 ·
  exact h
 ·
  have := zka p h hb; omega
theorem yli {n m : Nat} (h : m < ((List.range n).filter p).length) : ∃ k, k < n ∧ p k = true ∧ zhx p k = m := by
 have hk : ((List.range n).filter p)[m] ∈ (List.range n).filter p := List.getElem_mem h
 rw [List.mem_filter, List.mem_range] at hk
 refine ⟨_, hk.1, hk.2, ?_⟩
 have h1 := zye p hk.1 hk.2
 obtain ⟨h2, h3⟩ := List.getElem?_eq_some_iff.1 h1
 have hr := List.pairwise_iff_getElem.1 (List.Pairwise.filter p (List.pairwise_lt_range (n := n)))
 rcases Nat.lt_trichotomy (zhx p ((List.range n).filter p)[m]) m with h4 | h4 | h4
 ·
  have := hr _ _ h2 h h4; omega
 ·
  exact h4
 ·
  have := hr _ _ h h2 h4; omega
theorem yd3 {i : Nat} (h : ∀ k, p k = true → i ≤ k) : zhx p i = 0 := by
 unfold zhx
 rw [List.length_eq_zero_iff, List.filter_eq_nil_iff]
 intro a ha e
 have := h a e
 rw [List.mem_range] at ha
 omega
theorem zzy (k : Nat) : zhx p (k + 1) = zhx p k + if p k = true then 1 else 0 := by
 unfold zhx
 rw [List.range_succ, List.filter_append, List.length_append]
 congr 1
 by_cases h : p k = true
 ·
  simp [h]
 ·
  simp [h]
end
def zcs (l : List Nd) (i k : Nat) : Bool := decide (k < l.length) && za5 l i k
def zcn (l : List Nd) (i k : Nat) : Nat := zhx (zcs l i) k
def cutN (l : List Nd) (i k : Nat) : Nd := { nd l k with parent := if k = i then -1 else (zcn l i (up l k) : Int) }
def yax (l : List Nd) (i : Nat) : List Nat := (List.range l.length).filter (zcs l i)
def cutL (l : List Nd) (i : Nat) : List Nd := (yax l i).map (cutN l i)
section
variable {l : List Nd}
theorem zbg {i k : Nat} : zcs l i k = true ↔ k < l.length ∧ za5 l i k = true := by
 unfold zcs; rw [Bool.and_eq_true, decide_eq_true_iff]
theorem zg0 (h : MayT l) {i : Nat} (hi : i < l.length) : zcs l i i = true := zbg.2 ⟨hi, zel h hi⟩
theorem zoj (h : MayT l) {i k : Nat} (hk : zcs l i k = true) : i ≤ k := zho h i k (zbg.1 hk).1 (zbg.1 hk).2
theorem zdl (h : MayT l) (i : Nat) : zcn l i i = 0 := yd3 _ fun _ hk => zoj h hk
theorem zxl {i : Nat} : (cutL l i).length = (yax l i).length := by unfold cutL; rw [List.length_map]
theorem zhv {i k : Nat} (hk : zcs l i k = true) : zcn l i k < (cutL l i).length := by
 rw [zxl]; exact yig _ (zbg.1 hk).1 hk
theorem z06 {i k : Nat} (hk : zcs l i k = true) : nd (cutL l i) (zcn l i k) = cutN l i k := by
 unfold nd cutL
 rw [List.getD_eq_getElem?_getD, List.getElem?_map]
 have := zye (zcs l i) (zbg.1 hk).1 hk
 unfold yax zcn
 rw [this]
 rfl
theorem zyt {i m : Nat} (hm : m < (cutL l i).length) : ∃ k, zcs l i k = true ∧ zcn l i k = m := by
 rw [zxl] at hm
 obtain ⟨k, _, hk, e⟩ := yli _ hm
 exact ⟨k, hk, e⟩
theorem z2c {i k : Nat} (hk : zcs l i k = true) : sl (cutL l i) (zcn l i k) = sl l k := by unfold sl; rw [z06 hk]; rfl
theorem zge {i k : Nat} (hk : zcs l i k = true) : (nd (cutL l i) (zcn l i k)).root = (nd l k).root := by rw [z06 hk]; rfl
theorem zww (h : MayT l) {i k : Nat} (hk : zcs l i k = true) (hne : k ≠ i) : 0 < k ∧ zcs l i (up l k) = true ∧ up l k < k ∧ sl l (up l k) < sl l k := by
 obtain ⟨h1, h2⟩ := zbg.1 hk
 have h0 : 0 < k := by
  rcases Nat.eq_zero_or_pos k with e | e
  ·
   subst e; rw [zb4, decide_eq_true_iff] at h2; omega
  ·
   exact e
 obtain ⟨_, hu, hs⟩ := h.par h0 h1
 rcases (zb7 h i h0 h1).1 h2 with e | e
 ·
  omega
 ·
  exact ⟨h0, zbg.2 ⟨by omega, e⟩, hu, hs⟩
theorem ye0 (h : MayT l) {i k : Nat} (hk : zcs l i k = true) (hne : k ≠ i) : up (cutL l i) (zcn l i k) = zcn l i (up l k) := by
 have _ := h
 unfold up
 rw [z06 hk]
 show (if k = i then (-1 : Int) else (zcn l i (up l k) : Int)).toNat = _
 rw [if_neg hne]
 show ((zcn l i (up l k) : Nat) : Int).toNat = zcn l i (up l k)
 omega
theorem ziw (h : MayT l) {i : Nat} (hi : i < l.length) : MayT (cutL l i) := by
 have hs := zg0 h hi
 refine ⟨?_, ?_, fun m hm => ?_⟩
 ·
  have := zhv hs; omega
 ·
  rw [zxl]
  have : (yax l i).length ≤ (List.range l.length).length := List.length_filter_le _ _
  rw [List.length_range] at this
  have := h.le
  omega
 ·
  obtain ⟨k, hk, rfl⟩ := zyt hm
  have hkl := (zbg.1 hk).1
  refine ⟨by rw [z2c hk]; exact h.slot hkl, fun h0 => ?_, fun h0 => ?_, fun m' hm' => ?_⟩
  ·
   have : k = i := zyq _ hk hs (h0.trans (zdl h i).symm)
   rw [z06 hk]
   unfold cutN
   rw [if_pos this]
  ·
   have hne : k ≠ i := fun e => by subst e; rw [zdl h k] at h0; omega
   obtain ⟨_, hu, hlt, hsl⟩ := zww h hk hne
   have e : (nd (cutL l i) (zcn l i k)).parent = (zcn l i (up l k) : Int) := by
    rw [z06 hk]; unfold cutN; rw [if_neg hne]
   refine ⟨by rw [e]; omega, ?_, ?_⟩
   ·
    rw [e]
    have := zka (zcs l i) hlt hu
    unfold zcn
    omega
   ·
    rw [ye0 h hk hne, z2c hu, z2c hk]; exact hsl
  ·
   obtain ⟨k', hk', rfl⟩ := zyt (show m' < (cutL l i).length by omega)
   rw [zge hk, zge hk']
   intro e
   have := h.roots (zbg.1 hk').1 hkl e
   subst this
   omega
theorem zwt (h : MayT l) {i a : Nat} (hi : i < l.length) (ha : a < l.length) : zay (cutL l i) (nd l a).root = if za5 l i a = true then (zcn l i a : Int) else -1 := by
 have hc := ziw h hi
 by_cases hab : za5 l i a = true
 ·
  have hk : zcs l i a = true := zbg.2 ⟨ha, hab⟩
  rw [if_pos hab, ← zge hk]
  exact zl6 hc (zhv hk)
 ·
  rw [if_neg hab]
  rcases ze3 hc (nd l a).root with ⟨m, hm, _, hr⟩ | ⟨e, _⟩
  ·
   obtain ⟨k, hk, rfl⟩ := zyt hm
   rw [zge hk] at hr
   have := h.roots (zbg.1 hk).1 ha hr
   subst this
   exact absurd (zbg.1 hk).2 hab
  ·
   exact e
theorem ycp (h : MayT l) {i : Nat} (hi : i < l.length) : (nd (cutL l i) 0).root = (nd l i).root := by
 have := zge (zg0 h hi)
 rwa [zdl h i] at this
theorem zru (h : MayT l) {i a : Nat} (hi : i < l.length) (ha : zcs l i a = true) : ∀ b, zcs l i b = true → za5 (cutL l i) (zcn l i a) (zcn l i b) = za5 l a b := by
 have hc := ziw h hi
 intro b
 induction b using Nat.strongRecOn with
 | _ b ih =>
  intro hb
  have hbl := (zbg.1 hb).1
  by_cases hbi : b = i
  ·
   subst hbi
   rw [zdl h b, zb4, Bool.eq_iff_iff, decide_eq_true_iff]
   constructor
   ·
    intro e
    have : a = b := zyq _ ha hb (e.trans (zdl h b).symm)
    subst this
    exact zel h hbl
   ·
    intro e
    have h1 := zho h a b hbl e
    have h2 := zoj h ha
    have : a = b := by omega
    subst this
    exact zdl h a
  ·
   obtain ⟨h0, hu, hlt, _⟩ := zww h hb hbi
   have hr0 : 0 < zcn l i b := by
    have := zka (zcs l i) (show i < b by have := zoj h hb; omega) (zg0 h hi)
    unfold zcn; omega
   rw [Bool.eq_iff_iff, zb7 hc _ hr0 (zhv hb), zb7 h a h0 hbl, ye0 h hb hbi, ih _ hlt hu]
   constructor
   ·
    rintro (e | e)
    ·
     exact .inl (zyq _ ha hb e)
    ·
     exact .inr e
   ·
    rintro (e | e)
    ·
     subst e; exact .inl rfl
    ·
     exact .inr e
theorem ygr (h : MayT l) {i s : Nat} (hi : i < l.length) (hs : sl l i ≤ s) : atT l i s = i := by
 by_cases h0 : i = 0
 ·
  subst h0; rw [zw9, if_pos hs]; rfl
 ·
  rw [z8i h s (Nat.pos_of_ne_zero h0) hi, if_pos hs]
theorem yuo (h : MayT l) {i : Nat} (hi : i < l.length) (s : Nat) : ∀ a, zcs l i a = true → atT (cutL l i) (zcn l i a) s = if sl l i ≤ s then (zcn l i (atT l a s).toNat : Int) else -1 := by
 have hc := ziw h hi
 intro a
 induction a using Nat.strongRecOn with
 | _ a ih =>
  intro ha
  have hal := (zbg.1 ha).1
  by_cases hai : a = i
  ·
   subst hai
   rw [zdl h a, zw9]
   have e : sl (cutL l a) 0 = sl l a := by have := z2c ha; rwa [zdl h a] at this
   rw [e]
   by_cases hs : sl l a ≤ s
   ·
    rw [if_pos hs, if_pos hs, ygr h hal hs]
    have : ((a : Int)).toNat = a := by omega
    rw [this, zdl h a]; rfl
   ·
    rw [if_neg hs, if_neg hs]
  ·
   obtain ⟨h0, hu, hlt, _⟩ := zww h ha hai
   have hr0 : 0 < zcn l i a := by
    have := zka (zcs l i) (show i < a by have := zoj h ha; omega) (zg0 h hi)
    unfold zcn; omega
   rw [z8i hc s hr0 (zhv ha), z2c ha, ye0 h ha hai, ih _ hlt hu, z8i h s h0 hal]
   by_cases hs : sl l a ≤ s
   ·
    rw [if_pos hs, if_pos hs]
    have := ybi h a hal (zbg.1 ha).2
    rw [if_pos (by omega)]
    have : ((a : Int)).toNat = a := by omega
    rw [this]
   ·
    rw [if_neg hs, if_neg hs]
theorem yq3 (h : MayT l) {i a s : Nat} (ha : zcs l i a = true) (hs : sl l i ≤ s) : ∃ q : Nat, atT l a s = q ∧ zcs l i q = true := by
 obtain ⟨hal, hia⟩ := zbg.1 ha
 rcases yff h s a hal with ⟨_, hn⟩ | ⟨q, e, hq, _, _, hall⟩
 ·
  have := hn i hia; omega
 ·
  exact ⟨q, e, zbg.2 ⟨hq, hall i hia hs⟩⟩
end
def isT (l : List Nd) (i : Int) : Bool := decide (MayT l) && (decide (0 ≤ i) && decide (i < l.length))
def zcj (l : List Nd) (i k : Int) : Bool := (isT l i && isT l k) && za5 l i.toNat k.toNat
def atZ (l : List Nd) (i : Int) (s : Nat) : Int := if isT l i = true then atT l i.toNat s else -1
def ybo (l : List Nd) (i : Int) : List Nat := if isT l i = true then z8m l i.toNat else []
def cutZ (l : List Nd) (i : Int) : List Nd := if isT l i = true then cutL l i.toNat else []
section
variable {l : List Nd}
theorem ziz {i : Int} : isT l i = true ↔ MayT l ∧ 0 ≤ i ∧ i < l.length := by
 unfold isT
 rw [Bool.and_eq_true, Bool.and_eq_true, decide_eq_true_iff, decide_eq_true_iff, decide_eq_true_iff]
theorem zkd (h : MayT l) {i : Nat} (hi : i < l.length) : isT l (i : Int) = true := ziz.2 ⟨h, by omega, by omega⟩
theorem zeg (h : MayT l) {i k : Nat} (hi : i < l.length) (hk : k < l.length) : zcj l (i : Int) (k : Int) = za5 l i k := by
 unfold zcj
 rw [zkd h hi, zkd h hk]
 simp
theorem z4k (h : MayT l) {i : Nat} (hi : i < l.length) (s : Nat) : atZ l (i : Int) s = atT l i s := by
 unfold atZ
 rw [if_pos (zkd h hi)]
 simp
theorem z15 (h : MayT l) {i : Nat} (hi : i < l.length) : ybo l (i : Int) = z8m l i := by
 unfold ybo
 rw [if_pos (zkd h hi)]
 simp
theorem z7d (h : MayT l) {i : Nat} (hi : i < l.length) : cutZ l (i : Int) = cutL l i := by
 unfold cutZ
 rw [if_pos (zkd h hi)]
 simp
theorem yq1 (h : MayT l) {i a b s : Nat} (hi : i < l.length) (ha : a < l.length) (hb : b < l.length) :
  MayT (cutL l i) ∧ (nd (cutL l i) 0).root = (nd l i).root ∧
  ((zay (cutL l i) (nd l a).root = -1 ∧ za5 l i a = false) ∨ ∃ x : Nat, zay (cutL l i) (nd l a).root = x ∧ x < (cutL l i).length ∧ za5 l i a = true ∧
   (zay (cutL l i) (nd l b).root = -1 ∨ ∃ y : Nat, zay (cutL l i) (nd l b).root = y ∧ y < (cutL l i).length ∧ za5 (cutL l i) x y = za5 l a b) ∧
   ((s < sl l i ∧ atT (cutL l i) x s = -1) ∨ (sl l i ≤ s ∧ ∃ p q : Nat, atT (cutL l i) x s = p ∧ atT l a s = q ∧ p < (cutL l i).length ∧ q < l.length ∧ (nd (cutL l i) p).root = (nd l q).root))) := by
 refine ⟨ziw h hi, ycp h hi, ?_⟩
 rw [zwt h hi ha, zwt h hi hb]
 by_cases hab : za5 l i a = true
 ·
  rw [if_pos hab]
  have hka : zcs l i a = true := zbg.2 ⟨ha, hab⟩
  refine .inr ⟨zcn l i a, rfl, zhv hka, hab, ?_, ?_⟩
  ·
   by_cases hbb : za5 l i b = true
   ·
    rw [if_pos hbb]
    have hkb : zcs l i b = true := zbg.2 ⟨hb, hbb⟩
    exact .inr ⟨zcn l i b, rfl, zhv hkb, zru h hi hka b hkb⟩
   ·
    rw [if_neg hbb]; exact .inl rfl
  ·
   rw [yuo h hi s a hka]
   by_cases hs : sl l i ≤ s
   ·
    obtain ⟨q, e, hq⟩ := yq3 h hka hs
    rw [if_pos hs, e]
    have : ((q : Int)).toNat = q := by omega
    rw [this]
    exact .inr ⟨hs, zcn l i q, q, rfl, rfl, zhv hq, (zbg.1 hq).1, zge hq⟩
   ·
    rw [if_neg hs]; exact .inl ⟨by omega, rfl⟩
 ·
  rw [if_neg hab]
  exact .inl ⟨rfl, by simpa using hab⟩
end
def sumF (f : Nat → Nat) : Nat → Nat
 | 0 => 0
 | n + 1 => sumF f n + f n
theorem zhh (f g : Nat → Nat) : ∀ n, sumF (fun k => f k + g k) n = sumF f n + sumF g n
 | 0 => rfl
 | n + 1 => by simp only [sumF]; rw [zhh f g n]; omega
theorem zbo {f g : Nat → Nat} : ∀ n, (∀ k, k < n → f k = g k) → sumF f n = sumF g n
 | 0, _ => rfl
 | n + 1, h => by simp only [sumF]; rw [zbo n (fun k hk => h k (by omega)), h n (by omega)]
theorem zfu : ∀ n, sumF (fun _ => 0) n = 0
 | 0 => rfl
 | n + 1 => by simp only [sumF]; rw [zfu n]
theorem zzw (f : Nat → Nat → Nat) (m : Nat) : ∀ n, sumF (fun k => sumF (f k) m) n = sumF (fun j => sumF (fun k => f k j) n) m
 | 0 => by simp only [sumF]; rw [zfu]
 | n + 1 => by
  simp only [sumF]
  rw [zzw f m n, ← zhh]
theorem z30 {f g : Nat → Nat} : ∀ n, (∀ k, k < n → f k ≤ g k) → sumF f n ≤ sumF g n
 | 0, _ => Nat.le_refl _
 | n + 1, h => by simp only [sumF]; have := z30 n (fun k hk => h k (by omega)); have := h n (by omega); omega
theorem zyf (f : Nat → Nat) {n i : Nat} (h : i < n) (hz : ∀ k, k < n → k ≠ i → f k = 0) : sumF f n = f i := by
 induction n with
 | zero => omega
 | succ n ih =>
  simp only [sumF]
  by_cases e : i = n
  ·
   subst e
   rw [zbo (g := fun _ => 0) i (fun k hk => hz k (by omega) (by omega)), zfu, Nat.zero_add]
  ·
   rw [ih (by omega) (fun k hk hn => hz k (by omega) hn), hz n (by omega) (fun e2 => e e2.symm), Nat.add_zero]
theorem zvl (p : Nat → Bool) (g : Nat → Nat) : ∀ n, (((List.range n).filter p).map g).sum = sumF (fun c => if p c = true then g c else 0) n
 | 0 => rfl
 | n + 1 => by
  rw [List.range_succ, List.filter_append, List.map_append, List.sum_append, zvl p g n]
  simp only [sumF]
  congr 1
  by_cases h : p n = true <;> simp [h]
def subT (l : List Nd) (f : Nat → Nat) (i : Nat) : Nat := sumF (fun k => if za5 l i k = true then f k else 0) l.length
section
variable {l : List Nd}
theorem z2t (f g : Nat → Nat) (i : Nat) : subT l (fun k => f k + g k) i = subT l f i + subT l g i := by
 unfold subT
 rw [← zhh]
 refine zbo _ fun k _ => ?_
 dsimp only
 split <;> rfl
theorem zry {f g : Nat → Nat} (i : Nat) (h : ∀ k, k < l.length → f k = g k) : subT l f i = subT l g i := by
 unfold subT
 refine zbo _ fun k hk => ?_
 split
 ·
  exact h k hk
 ·
  rfl
theorem yf0 (f : Nat → Nat) (i : Nat) (b : Nat) (h : ∀ k, k < l.length → f k ≤ b) : subT l f i ≤ l.length * b := by
 unfold subT
 have : ∀ n, n ≤ l.length → sumF (fun k => if za5 l i k = true then f k else 0) n ≤ n * b := by
  intro n
  induction n with
  | zero => intro _; simp [sumF]
  | succ n ih =>
   intro hn
   simp only [sumF]
   have h1 := ih (by omega)
   have h2 : (if za5 l i n = true then f n else 0) ≤ b := by
    split
    ·
     exact h n (by omega)
    ·
     omega
   rw [Nat.add_mul, Nat.one_mul]
   omega
 exact this _ (Nat.le_refl _)
theorem ygp (h : MayT l) (i : Nat) : ∀ k, k < l.length → sumF (fun c => if (nd l c).parent = (i : Int) ∧ za5 l c k = true then 1 else 0) l.length = if za5 l i k = true ∧ k ≠ i then 1 else 0 := by
 intro k
 induction k using Nat.strongRecOn with
 | _ k ih =>
  intro hk
  by_cases h0 : k = 0
  ·
   subst h0
   rw [zbo (g := fun _ => 0) _ (fun c _ => ?_), zfu, if_neg ?_]
   ·
    rintro ⟨h1, h2⟩
    rw [zb4, decide_eq_true_iff] at h1
    omega
   ·
    rw [if_neg]
    rintro ⟨h1, h2⟩
    rw [zb4, decide_eq_true_iff] at h2
    subst h2
    rw [h.first] at h1
    omega
  ·
   have hp := Nat.pos_of_ne_zero h0
   obtain ⟨hpar, hu, _⟩ := h.par hp hk
   have e : ∀ c, c < l.length → (if (nd l c).parent = (i : Int) ∧ za5 l c k = true then 1 else 0) = (if c = k ∧ (nd l c).parent = (i : Int) then 1 else 0) + (if (nd l c).parent = (i : Int) ∧ za5 l c (up l k) = true then 1 else 0) := by
    intro c _
    by_cases hc : c = k
    ·
     subst hc
     have hn : za5 l c (up l c) = false := by
      rw [← Bool.not_eq_true]; intro e
      have := zho h c _ (by omega) e; omega
     rw [hn, zel h hk]
     simp
    ·
     have : za5 l c k = za5 l c (up l k) := by
      rw [Bool.eq_iff_iff, zb7 h c hp hk]
      exact ⟨fun e => e.resolve_left hc, .inr⟩
     rw [this]
     simp [hc]
   rw [zbo _ e, zhh, ih _ hu (by omega)]
   rw [zyf (fun c => if c = k ∧ (nd l c).parent = (i : Int) then 1 else 0) hk (fun c _ hc => by rw [if_neg]; rintro ⟨h1, _⟩; exact hc h1)]
   by_cases hi : up l k = i
   ·
    have h1 : (nd l k).parent = (i : Int) := by rw [hpar, hi]
    have h2 : za5 l i k = true := (zb7 h i hp hk).2 (.inr (by rw [hi]; exact zel h (by omega)))
    rw [if_pos ⟨rfl, h1⟩, if_neg (fun e => e.2 hi), if_pos ⟨h2, by omega⟩]
   ·
    have h1 : ¬ (nd l k).parent = (i : Int) := by rw [hpar]; omega
    rw [if_neg (fun e => h1 e.2), Nat.zero_add]
    by_cases hki : k = i
    ·
     subst hki
     have hn : za5 l k (up l k) = false := by
      rw [← Bool.not_eq_true]; intro e
      have := zho h k _ (by omega) e; omega
     rw [hn]
     simp
    ·
     have : za5 l i k = za5 l i (up l k) := by
      rw [Bool.eq_iff_iff, zb7 h i hp hk]
      exact ⟨fun e => e.resolve_left (fun e2 => hki e2.symm), .inr⟩
     rw [this]
     simp [hi, hki]
theorem z76 (h : MayT l) (f : Nat → Nat) {i : Nat} (hi : i < l.length) : subT l f i = f i + sumF (fun c => if (nd l c).parent = (i : Int) then subT l f c else 0) l.length := by
 have e1 : sumF (fun c => if (nd l c).parent = (i : Int) then subT l f c else 0) l.length = sumF (fun c => sumF (fun k => if (nd l c).parent = (i : Int) ∧ za5 l c k = true then f k else 0) l.length) l.length := by
  refine zbo _ fun c _ => ?_
  by_cases hc : (nd l c).parent = (i : Int)
  ·
   rw [if_pos hc]
   unfold subT
   refine zbo _ fun k _ => ?_
   simp [hc]
  ·
   rw [if_neg hc, zbo (g := fun _ => 0) _ (fun k _ => by rw [if_neg (fun e => hc e.1)]), zfu]
 rw [e1, zzw]
 have e2 : ∀ k, k < l.length → sumF (fun c => if (nd l c).parent = (i : Int) ∧ za5 l c k = true then f k else 0) l.length = if za5 l i k = true ∧ k ≠ i then f k else 0 := by
  intro k hk
  have := ygp h i k hk
  have e3 : ∀ n, sumF (fun c => if (nd l c).parent = (i : Int) ∧ za5 l c k = true then f k else 0) n = sumF (fun c => if (nd l c).parent = (i : Int) ∧ za5 l c k = true then 1 else 0) n * f k := by
   intro n
   induction n with
   | zero => simp [sumF]
   | succ n ih =>
    simp only [sumF]
    rw [ih, Nat.add_mul]
    congr 1
    split <;> simp
  rw [e3, this]
  split <;> simp
 rw [zbo _ e2]
 have e4 : f i = sumF (fun k => if k = i then f k else 0) l.length := by
  rw [zyf (fun k => if k = i then f k else 0) hi (fun k _ hk => by rw [if_neg hk]), if_pos rfl]
 rw [e4, ← zhh]
 unfold subT
 refine zbo _ fun k _ => ?_
 by_cases hk : k = i
 ·
  subst hk
  rw [zel h hi]
  simp
 ·
  simp [hk]
end
def fn (a : List UInt64) (k : Nat) : Nat := (a.getD k 0).toNat
theorem zy4 (a : List UInt64) (k : Nat) : fn a k < 18446744073709551616 := (a.getD k 0).toNat_lt
theorem ypc {a : List UInt64} {k : Nat} (h : k < a.length) : fn a k = a[k].toNat := by unfold fn; simp [h]
theorem zu4 {a b : List UInt64} (hl : a.length = b.length) (h : ∀ k, k < b.length → fn a k = fn b k) : a = b := by
 refine List.ext_getElem hl fun k h1 h2 => UInt64.toNat_inj.1 ?_
 have := h k h2
 rwa [ypc h1, ypc h2] at this
def zde (f : Nat → Nat) (n : Nat) : List UInt64 := (List.range n).map fun i => UInt64.ofNat (f i)
theorem zfn (f : Nat → Nat) (n : Nat) : (zde f n).length = n := by simp [zde]
theorem zzu (f : Nat → Nat) (n : Nat) : zde f (n + 1) = zde f n ++ [UInt64.ofNat (f n)] := by simp [zde, List.range_succ]
theorem zoz {f : Nat → Nat} {n k : Nat} (hk : k < n) (hf : f k < 18446744073709551616) : fn (zde f n) k = f k := by
 unfold fn zde
 rw [List.getD_eq_getElem?_getD, List.getElem?_map, List.getElem?_range hk]
 simp only [Option.map_some, Option.getD_some, UInt64.toNat_ofNat']
 omega
def FitW (l : List Nd) (a : List UInt64) : Prop := a.length = l.length ∧ ∀ i, i < l.length → subT l (fn a) i < 18446744073709551616
instance (l : List Nd) (a : List UInt64) : Decidable (FitW l a) := by unfold FitW; exact inferInstance
def zdp (l : List Nd) (a : List UInt64) : Bool := decide (MayT l ∧ FitW l a)
def subL (l : List Nd) (a : List UInt64) : List UInt64 := if zdp l a = true then zde (subT l (fn a)) l.length else []
section
variable {l : List Nd} {a : List UInt64}
theorem ze4 : zdp l a = true ↔ MayT l ∧ a.length = l.length ∧ ∀ i, i < l.length → subT l (fn a) i < 18446744073709551616 := by
 unfold zdp FitW
 rw [decide_eq_true_iff]
theorem z6v (h : zdp l a = true) : subL l a = zde (subT l (fn a)) l.length := by unfold subL; rw [if_pos h]
theorem ydz (h : zdp l a = false) : subL l a = [] := by unfold subL; rw [if_neg (by rw [h]; exact Bool.false_ne_true)]
theorem zfm (h : zdp l a = true) : (subL l a).length = l.length := by rw [z6v h, zfn]
theorem zey (h : zdp l a = true) {i : Nat} (hi : i < l.length) : fn (subL l a) i = subT l (fn a) i := by
 rw [z6v h]
 exact zoz hi ((ze4.1 h).2.2 i hi)
def zht (a b c : Nat) : Bool := decide (c ≤ a + b ∧ a + b - c < 18446744073709551616)
def ze0 (l : List Nd) (w p m : List UInt64) : Bool := (zdp l p && zdp l m) && (decide (w.length = l.length) && decide (∀ i, i < l.length → zht (fn w i) (subT l (fn p) i) (subT l (fn m) i) = true))
def yc8 (l : List Nd) (w p m : List UInt64) (i : Nat) : Nat := fn w i + subT l (fn p) i - subT l (fn m) i
def zpd (l : List Nd) (w p m : List UInt64) : List UInt64 := if ze0 l w p m = true then zde (yc8 l w p m) l.length else []
variable {w p m : List UInt64}
theorem zfh : ze0 l w p m = true ↔ zdp l p = true ∧ zdp l m = true ∧ w.length = l.length ∧ ∀ i, i < l.length → subT l (fn m) i ≤ fn w i + subT l (fn p) i ∧ fn w i + subT l (fn p) i - subT l (fn m) i < 18446744073709551616 := by
 unfold ze0 zht
 simp only [Bool.and_eq_true, decide_eq_true_iff, and_assoc]
theorem z17 (h : ze0 l w p m = true) : zpd l w p m = zde (yc8 l w p m) l.length := by unfold zpd; rw [if_pos h]
theorem zra (h : ze0 l w p m = false) : zpd l w p m = [] := by unfold zpd; rw [if_neg (by rw [h]; exact Bool.false_ne_true)]
theorem zrm (h : ze0 l w p m = true) : (zpd l w p m).length = l.length := by rw [z17 h, zfn]
theorem z7h (h : ze0 l w p m = true) {i : Nat} (hi : i < l.length) : fn (zpd l w p m) i = yc8 l w p m i := by
 rw [z17 h]
 exact zoz hi ((zfh.1 h).2.2.2 i hi).2
theorem zdt (h : MayT l) (hl : a.length = l.length) {b : Nat} (hb : b * 12 < 18446744073709551616) (ha : ∀ k, k < l.length → fn a k ≤ b) : zdp l a = true := by
 refine ze4.2 ⟨h, hl, fun i _ => ?_⟩
 have h1 := yf0 (l := l) (fn a) i b ha
 have h2 : l.length * b ≤ 12 * b := Nat.mul_le_mul_right _ h.le
 omega
theorem z64 {f g k : Nat → Nat} (i : Nat) (h : ∀ j, j < l.length → k j = f j + g j) : subT l k i = subT l f i + subT l g i := by
 rw [← z2t]
 exact zry i h
theorem yw3 (h : MayT l) {b c x : List UInt64} (ha : a.length = l.length) (hb : b.length = l.length) (hc : c.length = l.length) (h1 : ∀ k, k < l.length → fn a k < 1125899906842624 ∧ fn b k < 1125899906842624 ∧ fn c k = fn a k + fn b k)
  (hx : x.length = l.length) (hs : ∀ k, k < l.length → fn x k = (fn (subL l a) k + fn (subL l b) k) % 18446744073709551616) : zdp l a = true ∧ zdp l b = true ∧ zdp l c = true ∧ x = subL l c := by
 have sa := zdt (a := a) h ha (b := 1125899906842624) (by omega) (fun k hk => by have := h1 k hk; omega)
 have sb := zdt (a := b) h hb (b := 1125899906842624) (by omega) (fun k hk => by have := h1 k hk; omega)
 have sc := zdt (a := c) h hc (b := 2251799813685248) (by omega) (fun k hk => by have := h1 k hk; omega)
 refine ⟨sa, sb, sc, zu4 (by rw [hx, zfm sc]) fun k hk => ?_⟩
 rw [zfm sc] at hk
 rw [hs k hk, zey sa hk, zey sb hk, zey sc hk, z64 k (fun j hj => (h1 j hj).2.2)]
 have := (ze4.1 sc).2.2 k hk
 rw [z64 k (fun j hj => (h1 j hj).2.2)] at this
 exact Nat.mod_eq_of_lt this
theorem yiu (h : MayT l) {own is : List UInt64} (ho : own.length = l.length) (hp : p.length = l.length) (hm : m.length = l.length) (hi : is.length = l.length)
  (h1 : ∀ k, k < l.length → fn own k < 1125899906842624 ∧ fn p k < 1125899906842624 ∧ fn m k ≤ fn own k + fn p k ∧ fn is k = fn own k + fn p k - fn m k) : zdp l own = true ∧ zdp l is = true ∧ ze0 l (subL l own) p m = true ∧ zpd l (subL l own) p m = subL l is := by
 have so := zdt (a := own) h ho (b := 1125899906842624) (by omega) (fun k hk => by have := h1 k hk; omega)
 have sp := zdt (a := p) h hp (b := 1125899906842624) (by omega) (fun k hk => by have := h1 k hk; omega)
 have sm := zdt (a := m) h hm (b := 2251799813685248) (by omega) (fun k hk => by have := h1 k hk; omega)
 have si := zdt (a := is) h hi (b := 2251799813685248) (by omega) (fun k hk => by have := h1 k hk; omega)
 have e : ∀ i, subT l (fn own) i + subT l (fn p) i = subT l (fn is) i + subT l (fn m) i := fun i => by
  rw [← z2t, ← z2t]
  exact zry i fun k hk => by have := h1 k hk; omega
 have hp' : ze0 l (subL l own) p m = true := by
  refine zfh.2 ⟨sp, sm, zfm so, fun i hi => ?_⟩
  rw [zey so hi, e i]
  have := (ze4.1 si).2.2 i hi
  omega
 refine ⟨so, si, hp', zu4 (by rw [zrm hp', zfm si]) fun k hk => ?_⟩
 rw [zfm si] at hk
 rw [z7h hp' hk, zey si hk]
 unfold yc8
 rw [zey so hk, e k]
 omega
end
def hasB (mask : UInt64) (v : Nat) : Bool := mask.toNat.testBit v
def ofN (f : Nat → Nat) (n : Nat) (mask : UInt64) : Nat := sumF (fun v => if hasB mask v = true then f v else 0) n
def allM : UInt64 := 18446744073709551615
section
variable (f : Nat → Nat) {n : Nat}
theorem yi7 {B : Nat} (hf : ∀ v, v < n → f v ≤ B) (a : UInt64) : ofN f n a ≤ n * B := by
 unfold ofN
 have : ∀ m, m ≤ n → sumF (fun v => if hasB a v = true then f v else 0) m ≤ m * B := by
  intro m
  induction m with
  | zero => intro _; simp [sumF]
  | succ m ih =>
   intro hm
   simp only [sumF]
   have h1 := ih (by omega)
   have h2 : (if hasB a m = true then f m else 0) ≤ B := by
    split
    ·
     exact hf m (by omega)
    ·
     omega
   rw [Nat.add_mul, Nat.one_mul]
   omega
 exact this n (Nat.le_refl _)
end
def z8t (p w : Nat) : Bool := decide (2 * w ≤ 3 * p)
section
variable (f : Nat → Nat) {n : Nat}
end
def whoT (mask : UInt64) : List Nat := (List.range 64).filter (hasB mask)
theorem yrj {mask : UInt64} {v : Nat} : v ∈ whoT mask ↔ v < 64 ∧ hasB mask v = true := by unfold whoT; rw [List.mem_filter, List.mem_range]
theorem yv8 (f : Nat → Nat) (mask : UInt64) {n : Nat} (hn : n ≤ 64) : (((whoT mask).filter fun v => decide (v < n)).map f).sum = ofN f n mask := by
 unfold whoT
 rw [List.filter_filter, zvl]
 unfold ofN
 have h : ∀ m, m ≤ n → sumF (fun v => if (decide (v < n) && hasB mask v) = true then f v else 0) m = sumF (fun v => if hasB mask v = true then f v else 0) m := fun m hm => zbo _ fun v hv => by
  rw [decide_eq_true (show v < n by omega), Bool.true_and]
 have tail : ∀ d, n + d ≤ 64 → sumF (fun v => if (decide (v < n) && hasB mask v) = true then f v else 0) (n + d) = sumF (fun v => if (decide (v < n) && hasB mask v) = true then f v else 0) n := by
  intro d
  induction d with
  | zero => intro _; rfl
  | succ d ih =>
   intro hd
   rw [show n + (d + 1) = (n + d) + 1 by omega]
   simp only [sumF]
   rw [ih (by omega), decide_eq_false (show ¬ n + d < n by omega)]
   simp
 have := tail (64 - n) (by omega)
 rw [show n + (64 - n) = 64 by omega] at this
 rw [this, h n (Nat.le_refl _)]
def MayS (bal : List UInt64) : Prop := 1 ≤ bal.length ∧ bal.length ≤ 8 ∧ ∀ i, i < bal.length → fn bal i ≤ 1099511627776
instance (bal : List UInt64) : Decidable (MayS bal) := by unfold MayS; exact inferInstance
def mayB (bal : List UInt64) : Bool := decide (MayS bal)
def bitN (v : Int) : Nat := if 0 ≤ v ∧ v ≤ 63 then 2 ^ v.toNat else 0
def ofS (bal : List UInt64) (mask : UInt64) : Nat := if mayB bal = true then ofN (fn bal) bal.length mask else 0
def totS (bal : List UInt64) : Nat := ofS bal allM
def yms (bal : List UInt64) (mask : UInt64) : Bool := mayB bal && z8t (ofS bal mask) (totS bal)
section
variable {bal : List UInt64} {mask : UInt64}
theorem zfl : mayB bal = true ↔ 1 ≤ bal.length ∧ bal.length ≤ 8 ∧ ∀ i, i < bal.length → fn bal i ≤ 1099511627776 := by unfold mayB; rw [decide_eq_true_iff]; rfl
theorem yoq (h : mayB bal = false) : ofS bal mask = 0 := by unfold ofS; rw [if_neg (by rw [h]; exact Bool.false_ne_true)]
theorem yc4 (h : mayB bal = true) : ofS bal mask = ofN (fn bal) bal.length mask := by unfold ofS; rw [if_pos h]
theorem yqh (h : mayB bal = true) {k : Nat} (hk : k ≤ bal.length) : ofN (fn bal) k mask ≤ 8796093022208 := by
 obtain ⟨_, h2, h3⟩ := zfl.1 h
 have := yi7 (fn bal) (n := k) (B := 1099511627776) (fun v hv => h3 v (by omega)) mask
 omega
theorem ynu : ofS bal mask ≤ 8796093022208 := by
 cases h : mayB bal
 ·
  rw [yoq h]; omega
 ·
  rw [yc4 h]; exact yqh h (Nat.le_refl _)
theorem zq9 {v : Nat} (h : v < 64) : bitN (v : Int) = 2 ^ v := by unfold bitN; rw [if_pos (by omega)]; rfl
theorem yq6 (v : Int) : bitN v < 18446744073709551616 := by
 unfold bitN
 split
 ·
  rename_i h
  have : 2 ^ v.toNat ≤ 2 ^ 63 := Nat.pow_le_pow_right (by omega) (by omega)
  omega
 ·
  omega
end
end Go.Proofs.YtmihlihlpdkdcaaGreat
