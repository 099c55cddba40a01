import Derived.Test.YtmihlihlpdkdcaaGreatS05
import Derived.Below
import Derived.Test.YtmihlihlpdkdcaaGreatS04
namespace Go.Proofs.YtmihlihlpdkdcaaGreat
open Go.RowKit
set_option maxRecDepth 200000
set_option maxHeartbeats 64000000
section
variable (p : Nat → Bool)
def znv (k : Nat) : Nat := ((List.range k).filter p).length
theorem z2y {k n : Nat} (h : k ≤ n) : List.range n = List.range k ++ List.range' k (n - k) := by
 have e : n = k + (n - k) := by omega
 have := List.range'_append_1 (s := 0) (m := k) (n := n - k)
 rw [Nat.zero_add, ← e] at this
 rw [List.range_eq_range', List.range_eq_range', this]
theorem zu9 {k n : Nat} (h : k < n) (hp : p k = true) : ((List.range n).filter p)[znv p k]? = some k := by
 unfold znv
 rw [z2y (Nat.le_of_lt h), List.filter_append, List.getElem?_append_right (Nat.le_refl _), Nat.sub_self]
 rw [show n - k = (n - k - 1) + 1 by omega, List.range'_succ, List.filter_cons, if_pos hp]
 rfl
theorem ycb {k n : Nat} (h : k < n) (hp : p k = true) : znv p k < ((List.range n).filter p).length := (List.getElem?_eq_some_iff.1 (zu9 p h hp)).1
theorem zlv {a b : Nat} (h : a < b) (hp : p a = true) : znv p a < znv p b := ycb p h hp
theorem zv3 {a b : Nat} (ha : p a = true) (hb : p b = true) (e : znv p a = znv p b) : a = b := by
 rcases Nat.lt_trichotomy a b with h | h | h
 ·
  have := zlv p h ha; omega
 ·
  exact h
 ·
  have := zlv p h hb; omega
theorem yfv {n m : Nat} (h : m < ((List.range n).filter p).length) : ∃ k, k < n ∧ p k = true ∧ znv p k = m := by
 have hk : ((List.range n).filter p)[m] ∈ (List.range n).filter p := List.getElem_mem h
 rw [List.mem_filter, List.mem_range] at hk
 refine ⟨_, hk.1, hk.2, ?_⟩
 have h1 := zu9 p hk.1 hk.2
 obtain ⟨h2, h3⟩ := List.getElem?_eq_some_iff.1 h1
 have hr := List.pairwise_iff_getElem.1 (List.Pairwise.filter p (List.pairwise_lt_range (n := n)))
 rcases Nat.lt_trichotomy (znv p ((List.range n).filter p)[m]) m with h4 | h4 | h4
 ·
  have := hr _ _ h2 h h4; omega
 ·
  exact h4
 ·
  have := hr _ _ h h2 h4; omega
theorem yep {i : Nat} (h : ∀ k, p k = true → i ≤ k) : znv p i = 0 := by
 unfold znv
 rw [List.length_eq_zero_iff, List.filter_eq_nil_iff]
 intro a ha e
 have := h a e
 rw [List.mem_range] at ha
 omega
end
def zdo (l : List Nd) (i k : Nat) : Bool := decide (k < l.length) && zbn l i k
def ze1 (l : List Nd) (i k : Nat) : Nat := znv (zdo l i) k
def cutN (l : List Nd) (i k : Nat) : Nd := { nd l k with parent := if k = i then -1 else (ze1 l i (up l k) : Int) }
def ygg (l : List Nd) (i : Nat) : List Nat := (List.range l.length).filter (zdo l i)
def cutL (l : List Nd) (i : Nat) : List Nd := (ygg l i).map (cutN l i)
section
variable {l : List Nd}
theorem zbx {i k : Nat} : zdo l i k = true ↔ k < l.length ∧ zbn l i k = true := by
 unfold zdo; rw [Bool.and_eq_true, decide_eq_true_iff]
theorem zq8 (h : MayT l) {i : Nat} (hi : i < l.length) : zdo l i i = true := zbx.2 ⟨hi, zgx h hi⟩
theorem zpq (h : MayT l) {i k : Nat} (hk : zdo l i k = true) : i ≤ k := zi9 h i k (zbx.1 hk).1 (zbx.1 hk).2
theorem zg7 (h : MayT l) (i : Nat) : ze1 l i i = 0 := yep _ fun _ hk => zpq h hk
theorem z1d {i : Nat} : (cutL l i).length = (ygg l i).length := by unfold cutL; rw [List.length_map]
theorem zm2 {i k : Nat} (hk : zdo l i k = true) : ze1 l i k < (cutL l i).length := by
 rw [z1d]; exact ycb _ (zbx.1 hk).1 hk
theorem zxz {i k : Nat} (hk : zdo l i k = true) : nd (cutL l i) (ze1 l i k) = cutN l i k := by
 unfold nd cutL
 rw [List.getD_eq_getElem?_getD, List.getElem?_map]
 have := zu9 (zdo l i) (zbx.1 hk).1 hk
 unfold ygg ze1
 rw [this]
 rfl
theorem zuv {i m : Nat} (hm : m < (cutL l i).length) : ∃ k, zdo l i k = true ∧ ze1 l i k = m := by
 rw [z1d] at hm
 obtain ⟨k, _, hk, e⟩ := yfv _ hm
 exact ⟨k, hk, e⟩
theorem z9n {i k : Nat} (hk : zdo l i k = true) : sl (cutL l i) (ze1 l i k) = sl l k := by unfold sl; rw [zxz hk]; rfl
theorem zjk {i k : Nat} (hk : zdo l i k = true) : (nd (cutL l i) (ze1 l i k)).root = (nd l k).root := by rw [zxz hk]; rfl
theorem zz4 (h : MayT l) {i k : Nat} (hk : zdo l i k = true) (hne : k ≠ i) : 0 < k ∧ zdo l i (up l k) = true ∧ up l k < k ∧ sl l (up l k) < sl l k := by
 obtain ⟨h1, h2⟩ := zbx.1 hk
 have h0 : 0 < k := by
  rcases Nat.eq_zero_or_pos k with e | e
  ·
   subst e; rw [zdu, decide_eq_true_iff] at h2; omega
  ·
   exact e
 obtain ⟨_, hu, hs⟩ := h.par h0 h1
 rcases (zdn h i h0 h1).1 h2 with e | e
 ·
  omega
 ·
  exact ⟨h0, zbx.2 ⟨by omega, e⟩, hu, hs⟩
theorem yj0 (h : MayT l) {i k : Nat} (hk : zdo l i k = true) (hne : k ≠ i) : up (cutL l i) (ze1 l i k) = ze1 l i (up l k) := by
 have _ := h
 unfold up
 rw [zxz hk]
 show (if k = i then (-1 : Int) else (ze1 l i (up l k) : Int)).toNat = _
 rw [if_neg hne]
 show ((ze1 l i (up l k) : Nat) : Int).toNat = ze1 l i (up l k)
 omega
theorem zqn (h : MayT l) {i : Nat} (hi : i < l.length) : MayT (cutL l i) := by
 have hs := zq8 h hi
 refine ⟨?_, ?_, fun m hm => ?_⟩
 ·
  have := zm2 hs; omega
 ·
  rw [z1d]
  have : (ygg l i).length ≤ (List.range l.length).length := List.length_filter_le _ _
  rw [List.length_range] at this
  have := h.le
  omega
 ·
  obtain ⟨k, hk, rfl⟩ := zuv hm
  have hkl := (zbx.1 hk).1
  refine ⟨by rw [z9n hk]; exact h.slot hkl, fun h0 => ?_, fun h0 => ?_, fun m' hm' => ?_⟩
  ·
   have : k = i := zv3 _ hk hs (h0.trans (zg7 h i).symm)
   rw [zxz hk]
   unfold cutN
   rw [if_pos this]
  ·
   have hne : k ≠ i := fun e => by subst e; rw [zg7 h k] at h0; omega
   obtain ⟨_, hu, hlt, hsl⟩ := zz4 h hk hne
   have e : (nd (cutL l i) (ze1 l i k)).parent = (ze1 l i (up l k) : Int) := by
    rw [zxz hk]; unfold cutN; rw [if_neg hne]
   refine ⟨by rw [e]; omega, ?_, ?_⟩
   ·
    rw [e]
    have := zlv (zdo l i) hlt hu
    unfold ze1
    omega
   ·
    rw [yj0 h hk hne, z9n hu, z9n hk]; exact hsl
  ·
   obtain ⟨k', hk', rfl⟩ := zuv (show m' < (cutL l i).length by omega)
   rw [zjk hk, zjk hk']
   intro e
   have := h.roots (zbx.1 hk').1 hkl e
   subst this
   omega
theorem yh0 (h : MayT l) {i a : Nat} (hi : i < l.length) (ha : a < l.length) : za2 (cutL l i) (nd l a).root = if zbn l i a = true then (ze1 l i a : Int) else -1 := by
 have hc := zqn h hi
 by_cases hab : zbn l i a = true
 ·
  have hk : zdo l i a = true := zbx.2 ⟨ha, hab⟩
  rw [if_pos hab, ← zjk hk]
  exact zir hc (zm2 hk)
 ·
  rw [if_neg hab]
  rcases zd9 hc (nd l a).root with ⟨m, hm, _, hr⟩ | ⟨e, _⟩
  ·
   obtain ⟨k, hk, rfl⟩ := zuv hm
   rw [zjk hk] at hr
   have := h.roots (zbx.1 hk).1 ha hr
   subst this
   exact absurd (zbx.1 hk).2 hab
  ·
   exact e
theorem ydh (h : MayT l) {i a : Nat} (hi : i < l.length) (ha : zdo l i a = true) : ∀ b, zdo l i b = true → zbn (cutL l i) (ze1 l i a) (ze1 l i b) = zbn l a b := by
 have hc := zqn h hi
 intro b
 induction b using Nat.strongRecOn with
 | _ b ih =>
  intro hb
  have hbl := (zbx.1 hb).1
  by_cases hbi : b = i
  ·
   subst hbi
   rw [zg7 h b, zdu, Bool.eq_iff_iff, decide_eq_true_iff]
   constructor
   ·
    intro e
    have : a = b := zv3 _ ha hb (e.trans (zg7 h b).symm)
    subst this
    exact zgx h hbl
   ·
    intro e
    have h1 := zi9 h a b hbl e
    have h2 := zpq h ha
    have : a = b := by omega
    subst this
    exact zg7 h a
  ·
   obtain ⟨h0, hu, hlt, _⟩ := zz4 h hb hbi
   have hr0 : 0 < ze1 l i b := by
    have := zlv (zdo l i) (show i < b by have := zpq h hb; omega) (zq8 h hi)
    unfold ze1; omega
   rw [Bool.eq_iff_iff, zdn hc _ hr0 (zm2 hb), zdn h a h0 hbl, yj0 h hb hbi, ih _ hlt hu]
   constructor
   ·
    rintro (e | e)
    ·
     exact .inl (zv3 _ ha hb e)
    ·
     exact .inr e
   ·
    rintro (e | e)
    ·
     subst e; exact .inl rfl
    ·
     exact .inr e
end
def isT (l : List Nd) (i : Int) : Bool := decide (MayT l) && (decide (0 ≤ i) && decide (i < l.length))
def zdh (l : List Nd) (i k : Int) : Bool := (isT l i && isT l k) && zbn l i.toNat k.toNat
def cutZ (l : List Nd) (i : Int) : List Nd := if isT l i = true then cutL l i.toNat else []
section
variable {l : List Nd}
theorem zkn {i : Int} : isT l i = true ↔ MayT l ∧ 0 ≤ i ∧ i < l.length := by
 unfold isT
 rw [Bool.and_eq_true, Bool.and_eq_true, decide_eq_true_iff, decide_eq_true_iff, decide_eq_true_iff]
theorem zq4 (h : MayT l) {i : Nat} (hi : i < l.length) : isT l (i : Int) = true := zkn.2 ⟨h, by omega, by omega⟩
theorem zmv (h : MayT l) {i k : Nat} (hi : i < l.length) (hk : k < l.length) : zdh l (i : Int) (k : Int) = zbn l i k := by
 unfold zdh
 rw [zq4 h hi, zq4 h hk]
 simp
theorem yf8 (h : MayT l) {i : Nat} (hi : i < l.length) : cutZ l (i : Int) = cutL l i := by
 unfold cutZ
 rw [if_pos (zq4 h hi)]
 simp
end
def sumF (f : Nat → Nat) : Nat → Nat
 | 0 => 0
 | n + 1 => sumF f n + f n
theorem zgb (f g : Nat → Nat) : ∀ n, sumF (fun k => f k + g k) n = sumF f n + sumF g n
 | 0 => rfl
 | n + 1 => by simp only [sumF]; rw [zgb f g n]; omega
theorem zbq {f g : Nat → Nat} : ∀ n, (∀ k, k < n → f k = g k) → sumF f n = sumF g n
 | 0, _ => rfl
 | n + 1, h => by simp only [sumF]; rw [zbq n (fun k hk => h k (by omega)), h n (by omega)]
theorem zew : ∀ n, sumF (fun _ => 0) n = 0
 | 0 => rfl
 | n + 1 => by simp only [sumF]; rw [zew n]
theorem zxe (f : Nat → Nat → Nat) (m : Nat) : ∀ n, sumF (fun k => sumF (f k) m) n = sumF (fun j => sumF (fun k => f k j) n) m
 | 0 => by simp only [sumF]; rw [zew]
 | n + 1 => by
  simp only [sumF]
  rw [zxe f m n, ← zgb]
theorem z0h {f g : Nat → Nat} : ∀ n, (∀ k, k < n → f k ≤ g k) → sumF f n ≤ sumF g n
 | 0, _ => Nat.le_refl _
 | n + 1, h => by simp only [sumF]; have := z0h n (fun k hk => h k (by omega)); have := h n (by omega); omega
theorem zvd (f : Nat → Nat) {n i : Nat} (h : i < n) (hz : ∀ k, k < n → k ≠ i → f k = 0) : sumF f n = f i := by
 induction n with
 | zero => omega
 | succ n ih =>
  simp only [sumF]
  by_cases e : i = n
  ·
   subst e
   rw [zbq (g := fun _ => 0) i (fun k hk => hz k (by omega) (by omega)), zew, Nat.zero_add]
  ·
   rw [ih (by omega) (fun k hk hn => hz k (by omega) hn), hz n (by omega) (fun e2 => e e2.symm), Nat.add_zero]
theorem zs2 (p : Nat → Bool) (g : Nat → Nat) : ∀ n, (((List.range n).filter p).map g).sum = sumF (fun c => if p c = true then g c else 0) n
 | 0 => rfl
 | n + 1 => by
  rw [List.range_succ, List.filter_append, List.map_append, List.sum_append, zs2 p g n]
  simp only [sumF]
  congr 1
  by_cases h : p n = true <;> simp [h]
def subT (l : List Nd) (f : Nat → Nat) (i : Nat) : Nat := sumF (fun k => if zbn l i k = true then f k else 0) l.length
section
variable {l : List Nd}
theorem z0p (f g : Nat → Nat) (i : Nat) : subT l (fun k => f k + g k) i = subT l f i + subT l g i := by
 unfold subT
 rw [← zgb]
 refine zbq _ fun k _ => ?_
 dsimp only
 split <;> rfl
theorem zqz {f g : Nat → Nat} (i : Nat) (h : ∀ k, k < l.length → f k = g k) : subT l f i = subT l g i := by
 unfold subT
 refine zbq _ fun k hk => ?_
 split
 ·
  exact h k hk
 ·
  rfl
theorem yes (f : Nat → Nat) (i : Nat) (b : Nat) (h : ∀ k, k < l.length → f k ≤ b) : subT l f i ≤ l.length * b := by
 unfold subT
 have : ∀ n, n ≤ l.length → sumF (fun k => if zbn l i k = true then f k else 0) n ≤ n * b := by
  intro n
  induction n with
  | zero => intro _; simp [sumF]
  | succ n ih =>
   intro hn
   simp only [sumF]
   have h1 := ih (by omega)
   have h2 : (if zbn l i n = true then f n else 0) ≤ b := by
    split
    ·
     exact h n (by omega)
    ·
     omega
   rw [Nat.add_mul, Nat.one_mul]
   omega
 exact this _ (Nat.le_refl _)
theorem yc5 (h : MayT l) (i : Nat) : ∀ k, k < l.length → sumF (fun c => if (nd l c).parent = (i : Int) ∧ zbn l c k = true then 1 else 0) l.length = if zbn l i k = true ∧ k ≠ i then 1 else 0 := by
 intro k
 induction k using Nat.strongRecOn with
 | _ k ih =>
  intro hk
  by_cases h0 : k = 0
  ·
   subst h0
   rw [zbq (g := fun _ => 0) _ (fun c _ => ?_), zew, if_neg ?_]
   ·
    rintro ⟨h1, h2⟩
    rw [zdu, decide_eq_true_iff] at h1
    omega
   ·
    rw [if_neg]
    rintro ⟨h1, h2⟩
    rw [zdu, decide_eq_true_iff] at h2
    subst h2
    rw [h.first] at h1
    omega
  ·
   have hp := Nat.pos_of_ne_zero h0
   obtain ⟨hpar, hu, _⟩ := h.par hp hk
   have e : ∀ c, c < l.length → (if (nd l c).parent = (i : Int) ∧ zbn l c k = true then 1 else 0) = (if c = k ∧ (nd l c).parent = (i : Int) then 1 else 0) + (if (nd l c).parent = (i : Int) ∧ zbn l c (up l k) = true then 1 else 0) := by
    intro c _
    by_cases hc : c = k
    ·
     subst hc
     have hn : zbn l c (up l c) = false := by
      rw [← Bool.not_eq_true]; intro e
      have := zi9 h c _ (by omega) e; omega
     rw [hn, zgx h hk]
     simp
    ·
     have : zbn l c k = zbn l c (up l k) := by
      rw [Bool.eq_iff_iff, zdn h c hp hk]
      exact ⟨fun e => e.resolve_left hc, .inr⟩
     rw [this]
     simp [hc]
   rw [zbq _ e, zgb, ih _ hu (by omega)]
   rw [zvd (fun c => if c = k ∧ (nd l c).parent = (i : Int) then 1 else 0) hk (fun c _ hc => by rw [if_neg]; rintro ⟨h1, _⟩; exact hc h1)]
   by_cases hi : up l k = i
   ·
    have h1 : (nd l k).parent = (i : Int) := by rw [hpar, hi]
    have h2 : zbn l i k = true := (zdn h i hp hk).2 (.inr (by rw [hi]; exact zgx h (by omega)))
    rw [if_pos ⟨rfl, h1⟩, if_neg (fun e => e.2 hi), if_pos ⟨h2, by omega⟩]
   ·
    have h1 : ¬ (nd l k).parent = (i : Int) := by rw [hpar]; omega
    rw [if_neg (fun e => h1 e.2), Nat.zero_add]
    by_cases hki : k = i
    ·
     subst hki
     have hn : zbn l k (up l k) = false := by
      rw [← Bool.not_eq_true]; intro e
      have := zi9 h k _ (by omega) e; omega
     rw [hn]
     simp
    ·
     have : zbn l i k = zbn l i (up l k) := by
      rw [Bool.eq_iff_iff, zdn h i hp hk]
      exact ⟨fun e => e.resolve_left (fun e2 => hki e2.symm), .inr⟩
     rw [this]
     simp [hi, hki]
theorem z4d (h : MayT l) (f : Nat → Nat) {i : Nat} (hi : i < l.length) : subT l f i = f i + sumF (fun c => if (nd l c).parent = (i : Int) then subT l f c else 0) l.length := by
 have e1 : sumF (fun c => if (nd l c).parent = (i : Int) then subT l f c else 0) l.length = sumF (fun c => sumF (fun k => if (nd l c).parent = (i : Int) ∧ zbn l c k = true then f k else 0) l.length) l.length := by
  refine zbq _ fun c _ => ?_
  by_cases hc : (nd l c).parent = (i : Int)
  ·
   rw [if_pos hc]
   unfold subT
   refine zbq _ fun k _ => ?_
   simp [hc]
  ·
   rw [if_neg hc, zbq (g := fun _ => 0) _ (fun k _ => by rw [if_neg (fun e => hc e.1)]), zew]
 rw [e1, zxe]
 have e2 : ∀ k, k < l.length → sumF (fun c => if (nd l c).parent = (i : Int) ∧ zbn l c k = true then f k else 0) l.length = if zbn l i k = true ∧ k ≠ i then f k else 0 := by
  intro k hk
  have := yc5 h i k hk
  have e3 : ∀ n, sumF (fun c => if (nd l c).parent = (i : Int) ∧ zbn l c k = true then f k else 0) n = sumF (fun c => if (nd l c).parent = (i : Int) ∧ zbn l c k = true then 1 else 0) n * f k := by
   intro n
   induction n with
   | zero => simp [sumF]
   | succ n ih =>
    simp only [sumF]
    rw [ih, Nat.add_mul]
    congr 1
    split <;> simp
  rw [e3, this]
  split <;> simp
 rw [zbq _ e2]
 have e4 : f i = sumF (fun k => if k = i then f k else 0) l.length := by
  rw [zvd (fun k => if k = i then f k else 0) hi (fun k _ hk => by rw [if_neg hk]), if_pos rfl]
 rw [e4, ← zgb]
 unfold subT
 refine zbq _ fun k _ => ?_
 by_cases hk : k = i
 ·
  subst hk
  rw [zgx h hi]
  simp
 ·
  simp [hk]
end
def fn (a : List UInt64) (k : Nat) : Nat := (a.getD k 0).toNat
theorem zub (a : List UInt64) (k : Nat) : fn a k < 18446744073709551616 := (a.getD k 0).toNat_lt
theorem ym3 {a : List UInt64} {k : Nat} (h : k < a.length) : fn a k = a[k].toNat := by unfold fn; simp [h]
theorem zp7 {a b : List UInt64} (hl : a.length = b.length) (h : ∀ k, k < b.length → fn a k = fn b k) : a = b := by
 refine List.ext_getElem hl fun k h1 h2 => UInt64.toNat_inj.1 ?_
 have := h k h2
 rwa [ym3 h1, ym3 h2] at this
def zcx (f : Nat → Nat) (n : Nat) : List UInt64 := (List.range n).map fun i => UInt64.ofNat (f i)
theorem zes (f : Nat → Nat) (n : Nat) : (zcx f n).length = n := by simp [zcx]
theorem zzl (f : Nat → Nat) (n : Nat) : zcx f (n + 1) = zcx f n ++ [UInt64.ofNat (f n)] := by simp [zcx, List.range_succ]
theorem zmy {f : Nat → Nat} {n k : Nat} (hk : k < n) (hf : f k < 18446744073709551616) : fn (zcx f n) k = f k := by
 unfold fn zcx
 rw [List.getD_eq_getElem?_getD, List.getElem?_map, List.getElem?_range hk]
 simp only [Option.map_some, Option.getD_some, UInt64.toNat_ofNat']
 omega
def FitW (l : List Nd) (a : List UInt64) : Prop := a.length = l.length ∧ ∀ i, i < l.length → subT l (fn a) i < 18446744073709551616
instance (l : List Nd) (a : List UInt64) : Decidable (FitW l a) := by unfold FitW; exact inferInstance
def zdc (l : List Nd) (a : List UInt64) : Bool := decide (MayT l ∧ FitW l a)
def subL (l : List Nd) (a : List UInt64) : List UInt64 := if zdc l a = true then zcx (subT l (fn a)) l.length else []
section
variable {l : List Nd} {a : List UInt64}
theorem zd7 : zdc l a = true ↔ MayT l ∧ a.length = l.length ∧ ∀ i, i < l.length → subT l (fn a) i < 18446744073709551616 := by
 unfold zdc FitW
 rw [decide_eq_true_iff]
theorem z3c (h : zdc l a = true) : subL l a = zcx (subT l (fn a)) l.length := by unfold subL; rw [if_pos h]
theorem yck (h : zdc l a = false) : subL l a = [] := by unfold subL; rw [if_neg (by rw [h]; exact Bool.false_ne_true)]
theorem zeq (h : zdc l a = true) : (subL l a).length = l.length := by rw [z3c h, zes]
theorem zd1 (h : zdc l a = true) {i : Nat} (hi : i < l.length) : fn (subL l a) i = subT l (fn a) i := by
 rw [z3c h]
 exact zmy hi ((zd7.1 h).2.2 i hi)
def zgs (a b c : Nat) : Bool := decide (c ≤ a + b ∧ a + b - c < 18446744073709551616)
def zea (l : List Nd) (w p m : List UInt64) : Bool := (zdc l p && zdc l m) && (decide (w.length = l.length) && decide (∀ i, i < l.length → zgs (fn w i) (subT l (fn p) i) (subT l (fn m) i) = true))
def z8z (l : List Nd) (w p m : List UInt64) (i : Nat) : Nat := fn w i + subT l (fn p) i - subT l (fn m) i
def znd (l : List Nd) (w p m : List UInt64) : List UInt64 := if zea l w p m = true then zcx (z8z l w p m) l.length else []
variable {w p m : List UInt64}
theorem zef : zea l w p m = true ↔ zdc l p = true ∧ zdc l m = true ∧ w.length = l.length ∧ ∀ i, i < l.length → subT l (fn m) i ≤ fn w i + subT l (fn p) i ∧ fn w i + subT l (fn p) i - subT l (fn m) i < 18446744073709551616 := by
 unfold zea zgs
 simp only [Bool.and_eq_true, decide_eq_true_iff, and_assoc]
theorem zw3 (h : zea l w p m = true) : znd l w p m = zcx (z8z l w p m) l.length := by unfold znd; rw [if_pos h]
theorem zou (h : zea l w p m = false) : znd l w p m = [] := by unfold znd; rw [if_neg (by rw [h]; exact Bool.false_ne_true)]
theorem zpb (h : zea l w p m = true) : (znd l w p m).length = l.length := by rw [zw3 h, zes]
theorem z4v (h : zea l w p m = true) {i : Nat} (hi : i < l.length) : fn (znd l w p m) i = z8z l w p m i := by
 rw [zw3 h]
 exact zmy hi ((zef.1 h).2.2.2 i hi).2
theorem zda (h : MayT l) (hl : a.length = l.length) {b : Nat} (hb : b * 12 < 18446744073709551616) (ha : ∀ k, k < l.length → fn a k ≤ b) : zdc l a = true := by
 refine zd7.2 ⟨h, hl, fun i _ => ?_⟩
 have h1 := yes (l := l) (fn a) i b ha
 have h2 : l.length * b ≤ 12 * b := Nat.mul_le_mul_right _ h.le
 omega
theorem z5c {f g k : Nat → Nat} (i : Nat) (h : ∀ j, j < l.length → k j = f j + g j) : subT l k i = subT l f i + subT l g i := by
 rw [← z0p]
 exact zqz i h
theorem ysl (h : MayT l) {b c x : List UInt64} (ha : a.length = l.length) (hb : b.length = l.length) (hc : c.length = l.length) (h1 : ∀ k, k < l.length → fn a k < 1125899906842624 ∧ fn b k < 1125899906842624 ∧ fn c k = fn a k + fn b k)
  (hx : x.length = l.length) (hs : ∀ k, k < l.length → fn x k = (fn (subL l a) k + fn (subL l b) k) % 18446744073709551616) : zdc l a = true ∧ zdc l b = true ∧ zdc l c = true ∧ x = subL l c := by
 have sa := zda (a := a) h ha (b := 1125899906842624) (by omega) (fun k hk => by have := h1 k hk; omega)
 have sb := zda (a := b) h hb (b := 1125899906842624) (by omega) (fun k hk => by have := h1 k hk; omega)
 have sc := zda (a := c) h hc (b := 2251799813685248) (by omega) (fun k hk => by have := h1 k hk; omega)
 refine ⟨sa, sb, sc, zp7 (by rw [hx, zeq sc]) fun k hk => ?_⟩
 rw [zeq sc] at hk
 rw [hs k hk, zd1 sa hk, zd1 sb hk, zd1 sc hk, z5c k (fun j hj => (h1 j hj).2.2)]
 have := (zd7.1 sc).2.2 k hk
 rw [z5c k (fun j hj => (h1 j hj).2.2)] at this
 exact Nat.mod_eq_of_lt this
theorem yi7 (h : MayT l) {own is : List UInt64} (ho : own.length = l.length) (hp : p.length = l.length) (hm : m.length = l.length) (hi : is.length = l.length)
  (h1 : ∀ k, k < l.length → fn own k < 1125899906842624 ∧ fn p k < 1125899906842624 ∧ fn m k ≤ fn own k + fn p k ∧ fn is k = fn own k + fn p k - fn m k) : zdc l own = true ∧ zdc l is = true ∧ zea l (subL l own) p m = true ∧ znd l (subL l own) p m = subL l is := by
 have so := zda (a := own) h ho (b := 1125899906842624) (by omega) (fun k hk => by have := h1 k hk; omega)
 have sp := zda (a := p) h hp (b := 1125899906842624) (by omega) (fun k hk => by have := h1 k hk; omega)
 have sm := zda (a := m) h hm (b := 2251799813685248) (by omega) (fun k hk => by have := h1 k hk; omega)
 have si := zda (a := is) h hi (b := 2251799813685248) (by omega) (fun k hk => by have := h1 k hk; omega)
 have e : ∀ i, subT l (fn own) i + subT l (fn p) i = subT l (fn is) i + subT l (fn m) i := fun i => by
  rw [← z0p, ← z0p]
  exact zqz i fun k hk => by have := h1 k hk; omega
 have hp' : zea l (subL l own) p m = true := by
  refine zef.2 ⟨sp, sm, zeq so, fun i hi => ?_⟩
  rw [zd1 so hi, e i]
  have := (zd7.1 si).2.2 i hi
  omega
 refine ⟨so, si, hp', zp7 (by rw [zpb hp', zeq si]) fun k hk => ?_⟩
 rw [zeq si] at hk
 rw [z4v hp' hk, zd1 si hk]
 unfold z8z
 rw [zd1 so hk, e k]
 omega
end
def hasB (mask : UInt64) (v : Nat) : Bool := mask.toNat.testBit v
def ofN (f : Nat → Nat) (n : Nat) (mask : UInt64) : Nat := sumF (fun v => if hasB mask v = true then f v else 0) n
def allM : UInt64 := 18446744073709551615
section
variable (f : Nat → Nat) {n : Nat}
theorem yfg {B : Nat} (hf : ∀ v, v < n → f v ≤ B) (a : UInt64) : ofN f n a ≤ n * B := by
 unfold ofN
 have : ∀ m, m ≤ n → sumF (fun v => if hasB a v = true then f v else 0) m ≤ m * B := by
  intro m
  induction m with
  | zero => intro _; simp [sumF]
  | succ m ih =>
   intro hm
   simp only [sumF]
   have h1 := ih (by omega)
   have h2 : (if hasB a m = true then f m else 0) ≤ B := by
    split
    ·
     exact hf m (by omega)
    ·
     omega
   rw [Nat.add_mul, Nat.one_mul]
   omega
 exact this n (Nat.le_refl _)
end
def z8t (p w : Nat) : Bool := decide (2 * w ≤ 3 * p)
section
variable (f : Nat → Nat) {n : Nat}
end
def whoT (mask : UInt64) : List Nat := (List.range 64).filter (hasB mask)
theorem yns {mask : UInt64} {v : Nat} : v ∈ whoT mask ↔ v < 64 ∧ hasB mask v = true := by unfold whoT; rw [List.mem_filter, List.mem_range]
theorem yp8 (f : Nat → Nat) (mask : UInt64) {n : Nat} (hn : n ≤ 64) : (((whoT mask).filter fun v => decide (v < n)).map f).sum = ofN f n mask := by
 unfold whoT
 rw [List.filter_filter, zs2]
 unfold ofN
 have h : ∀ m, m ≤ n → sumF (fun v => if (decide (v < n) && hasB mask v) = true then f v else 0) m = sumF (fun v => if hasB mask v = true then f v else 0) m := fun m hm => zbq _ fun v hv => by
  rw [decide_eq_true (show v < n by omega), Bool.true_and]
 have tail : ∀ d, n + d ≤ 64 → sumF (fun v => if (decide (v < n) && hasB mask v) = true then f v else 0) (n + d) = sumF (fun v => if (decide (v < n) && hasB mask v) = true then f v else 0) n := by
  intro d
  induction d with
  | zero => intro _; rfl
  | succ d ih =>
   intro hd
   rw [show n + (d + 1) = (n + d) + 1 by omega]
   simp only [sumF]
   rw [ih (by omega), decide_eq_false (show ¬ n + d < n by omega)]
   simp
 have := tail (64 - n) (by omega)
 rw [show n + (64 - n) = 64 by omega] at this
 rw [this, h n (Nat.le_refl _)]
def MayS (bal : List UInt64) : Prop := 1 ≤ bal.length ∧ bal.length ≤ 8 ∧ ∀ i, i < bal.length → fn bal i ≤ 1099511627776
instance (bal : List UInt64) : Decidable (MayS bal) := by unfold MayS; exact inferInstance
def mayB (bal : List UInt64) : Bool := decide (MayS bal)
def bitN (v : Int) : Nat := if 0 ≤ v ∧ v ≤ 63 then 2 ^ v.toNat else 0
def ofS (bal : List UInt64) (mask : UInt64) : Nat := if mayB bal = true then ofN (fn bal) bal.length mask else 0
def totS (bal : List UInt64) : Nat := ofS bal allM
def ygl (bal : List UInt64) (mask : UInt64) : Bool := mayB bal && z8t (ofS bal mask) (totS bal)
section
variable {bal : List UInt64} {mask : UInt64}
theorem zcy : mayB bal = true ↔ 1 ≤ bal.length ∧ bal.length ≤ 8 ∧ ∀ i, i < bal.length → fn bal i ≤ 1099511627776 := by unfold mayB; rw [decide_eq_true_iff]; rfl
theorem yj1 (h : mayB bal = false) : ofS bal mask = 0 := by unfold ofS; rw [if_neg (by rw [h]; exact Bool.false_ne_true)]
theorem ya0 (h : mayB bal = true) : ofS bal mask = ofN (fn bal) bal.length mask := by unfold ofS; rw [if_pos h]
theorem yl4 (h : mayB bal = true) {k : Nat} (hk : k ≤ bal.length) : ofN (fn bal) k mask ≤ 8796093022208 := by
 obtain ⟨_, h2, h3⟩ := zcy.1 h
 have := yfg (fn bal) (n := k) (B := 1099511627776) (fun v hv => h3 v (by omega)) mask
 omega
theorem yjz : ofS bal mask ≤ 8796093022208 := by
 cases h : mayB bal
 ·
  rw [yj1 h]; omega
 ·
  rw [ya0 h]; exact yl4 h (Nat.le_refl _)
theorem zo5 {v : Nat} (h : v < 64) : bitN (v : Int) = 2 ^ v := by unfold bitN; rw [if_pos (by omega)]; rfl
theorem yoa (v : Int) : bitN v < 18446744073709551616 := by
 unfold bitN
 split
 ·
  rename_i h
  have : 2 ^ v.toNat ≤ 2 ^ 63 := Nat.pow_le_pow_right (by omega) (by omega)
  omega
 ·
  omega
end
structure Vt where
 l : List Lt
 out : UInt64
theorem Vt.ext {x y : Vt} (h0 : x.l = y.l) (h1 : x.out = y.out) : x = y := by cases x; cases y; simp_all
instance : DecidableEq Vt := fun x y => decidable_of_iff (x.l = y.l ∧ x.out = y.out) ⟨fun h => Vt.ext h.1 h.2, fun h => by subst h; exact ⟨rfl, rfl⟩⟩
def lat (l : List Lt) (i : Nat) : Lt := l.getD i zlt
theorem zqm {l : List Lt} {i : Nat} (h : i < l.length) : lat l i = l[i] := by unfold lat; simp [h]
theorem z03 {l k : List Lt} (hl : l.length = k.length) (h : ∀ i, i < k.length → lat l i = lat k i) : l = k := by
 refine List.ext_getElem hl fun i h1 h2 => ?_
 have := h i h2
 rwa [zqm h1, zqm h2] at this
theorem zkf {l : List Lt} {i j : Nat} {x : Lt} (h : i < l.length) : lat (l.set i x) j = if j = i then x else lat l j := by
 unfold lat
 rw [List.getD_eq_getElem?_getD, List.getElem?_set]
 by_cases e : i = j
 ·
  subst e; rw [if_pos rfl, if_pos h, if_pos rfl]; rfl
 ·
  rw [if_neg e, if_neg (fun e2 => e e2.symm), List.getD_eq_getElem?_getD]
def okAt (v : Vt) (i : Nat) : Bool := if hasB v.out i = true ∧ ¬ i < v.l.length then false else if i < v.l.length ∧ (hasB v.out i = true ∨ (lat v.l i).has = false) then decide (lat v.l i = zlt) else true
def MayV (v : Vt) : Prop := 1 ≤ v.l.length ∧ v.l.length ≤ 8 ∧ ∀ i, i < 64 → okAt v i = true
instance (v : Vt) : Decidable (MayV v) := by unfold MayV; exact inferInstance
def mayV (v : Vt) : Bool := decide (MayV v)
theorem zcg {v : Vt} : mayV v = true ↔ 1 ≤ v.l.length ∧ v.l.length ≤ 8 ∧ ∀ i, i < 64 → okAt v i = true := by unfold mayV; rw [decide_eq_true_iff]; rfl
theorem zdq {v : Vt} {i : Nat} : okAt v i = true ↔ (hasB v.out i = true → i < v.l.length) ∧ (i < v.l.length → hasB v.out i = true ∨ (lat v.l i).has = false → lat v.l i = zlt) := by
 unfold okAt
 by_cases h1 : hasB v.out i = true ∧ ¬ i < v.l.length
 ·
  rw [if_pos h1]
  exact ⟨fun e => by (cases e), fun e => absurd (e.1 h1.1) h1.2⟩
 ·
  rw [if_neg h1]
  by_cases h2 : i < v.l.length ∧ (hasB v.out i = true ∨ (lat v.l i).has = false)
  ·
   rw [if_pos h2, decide_eq_true_iff]
   exact ⟨fun e => ⟨fun _ => h2.1, fun _ _ => e⟩, fun e => e.2 h2.1 h2.2⟩
  ·
   rw [if_neg h2]
   refine ⟨fun _ => ⟨fun e => Classical.byContradiction fun n => h1 ⟨e, n⟩, fun h3 h4 => absurd ⟨h3, h4⟩ h2⟩, fun _ => rfl⟩
def zfb (n : Int) : Bool := decide (1 ≤ n ∧ n ≤ 8)
def newV (n : Int) : Vt := if zfb n = true then ⟨List.replicate n.toNat zlt, 0⟩ else ⟨[], 0⟩
def inV (v : Vt) (i : Int) : Bool := decide (0 ≤ i ∧ i < v.l.length)
def zkd (v : Vt) (i : Nat) (r : Rt) (ep : UInt64) : Nat :=
 if hasB v.out i = true then 0
 else if (lat v.l i).has = true ∧ (ep.toNat < (lat v.l i).epoch.toNat ∨ (lat v.l i).epoch = ep ∧ (lat v.l i).root = r) then 0
 else if (lat v.l i).has = true ∧ (lat v.l i).epoch = ep then 2 else 1
def bitU (i : Nat) : UInt64 := UInt64.ofNat (2 ^ i)
def zoh (v : Vt) (i : Nat) (r : Rt) (ep : UInt64) : Vt := match zkd v i r ep with
 | 0 => v
 | 1 => ⟨v.l.set i ⟨true, r, ep⟩, v.out⟩
 | _ => ⟨v.l.set i zlt, v.out + bitU i⟩
def zse (v : Vt) (i : Int) : Nat := if mayV v = true then (if inV v i = true then 0 else 10) else 1
def zr7 (v : Vt) (i : Int) (r : Rt) (ep : UInt64) : Nat := if mayV v = true ∧ inV v i = true then zkd v i.toNat r ep else 0
def putV (v : Vt) (i : Int) (r : Rt) (ep : UInt64) : Vt := if mayV v = true ∧ inV v i = true then zoh v i.toNat r ep else v
def zr9 (keep : List Rt) (x : Lt) : Bool := decide (x.root ∈ keep)
def zmt (v : Vt) (keep : List Rt) : Vt := if mayV v = true then ⟨v.l.map fun x => if zr9 keep x = true then x else zlt, v.out⟩ else v
theorem z3r {j : Nat} (hj : j < 64) (k : Nat) : hasB (bitU j) k = decide (j = k) := by
 unfold hasB bitU
 rw [UInt64.toNat_ofNat', Nat.mod_eq_of_lt (Nat.pow_lt_pow_right (by decide) hj), Nat.testBit_two_pow]
theorem ydf {out : UInt64} {j : Nat} (hj : j < 64) (h : hasB out j = false) : out + bitU j = out ||| bitU j := by
 have h0 : out &&& bitU j = 0 := zwi fun i => by
  rw [ynm]
  have h1 := z3r hj i
  unfold hasB at h h1
  rw [h1]
  by_cases e : j = i
  ·
   subst e; rw [h, Bool.false_and]; exact (Nat.zero_testBit j).symm
  ·
   rw [decide_eq_false e, Bool.and_false]; exact (Nat.zero_testBit i).symm
 apply UInt64.toBitVec_inj.1
 rw [UInt64.toBitVec_add, UInt64.toBitVec_or]
 refine BitVec.add_eq_or_of_and_eq_zero _ _ ?_
 rw [← UInt64.toBitVec_and, h0]
 rfl
theorem ybf {out : UInt64} {j : Nat} (hj : j < 64) (h : hasB out j = false) (k : Nat) : hasB (out + bitU j) k = (hasB out k || decide (j = k)) := by
 rw [ydf hj h, ← z3r hj k]
 exact z31 _ _ _
theorem yf7 (k : Nat) : hasB 0 k = false := Nat.zero_testBit k
section
variable {v : Vt} {i : Nat} {r : Rt} {ep : UInt64}
theorem zg5 (h : zkd v i r ep = 0) : zoh v i r ep = v := by unfold zoh; rw [h]; rfl
theorem zln (h : zkd v i r ep = 1) : zoh v i r ep = ⟨v.l.set i ⟨true, r, ep⟩, v.out⟩ := by unfold zoh; rw [h]; rfl
theorem zl0 (h : zkd v i r ep = 2) : zoh v i r ep = ⟨v.l.set i zlt, v.out + bitU i⟩ := by unfold zoh; rw [h]; rfl
theorem zjc (v : Vt) (i : Nat) (r : Rt) (ep : UInt64) :
  (zkd v i r ep = 0 ∧ (hasB v.out i = true ∨ (lat v.l i).has = true ∧ (ep.toNat < (lat v.l i).epoch.toNat ∨ (lat v.l i).epoch = ep ∧ (lat v.l i).root = r)))
  ∨ (zkd v i r ep = 1 ∧ hasB v.out i = false ∧ ((lat v.l i).has = false ∨ (lat v.l i).epoch.toNat < ep.toNat))
  ∨ (zkd v i r ep = 2 ∧ hasB v.out i = false ∧ (lat v.l i).has = true ∧ (lat v.l i).epoch = ep ∧ (lat v.l i).root ≠ r) := by
 unfold zkd
 by_cases h1 : hasB v.out i = true
 ·
  rw [if_pos h1]; exact .inl ⟨rfl, .inl h1⟩
 ·
  rw [if_neg h1]
  have h1' : hasB v.out i = false := by simpa using h1
  by_cases h2 : (lat v.l i).has = true ∧ (ep.toNat < (lat v.l i).epoch.toNat ∨ (lat v.l i).epoch = ep ∧ (lat v.l i).root = r)
  ·
   rw [if_pos h2]; exact .inl ⟨rfl, .inr h2⟩
  ·
   rw [if_neg h2]
   by_cases h3 : (lat v.l i).has = true ∧ (lat v.l i).epoch = ep
   ·
    rw [if_pos h3]; exact .inr (.inr ⟨rfl, h1', h3.1, h3.2, fun e => h2 ⟨h3.1, .inr ⟨h3.2, e⟩⟩⟩)
   ·
    rw [if_neg h3]
    refine .inr (.inl ⟨rfl, h1', ?_⟩)
    by_cases h4 : (lat v.l i).has = true
    ·
     refine .inr ?_
     have h5 : ¬ ep.toNat < (lat v.l i).epoch.toNat := fun e => h2 ⟨h4, .inl e⟩
     have h6 : (lat v.l i).epoch.toNat ≠ ep.toNat := fun e => h3 ⟨h4, UInt64.toNat_inj.1 e⟩
     omega
    ·
     exact .inl (by simpa using h4)
theorem yjk : (zoh v i r ep).l.length = v.l.length := by
 rcases zjc v i r ep with h | h | h
 ·
  rw [zg5 h.1]
 ·
  rw [zln h.1]; exact List.length_set
 ·
  rw [zl0 h.1]; exact List.length_set
theorem z7p {j : Nat} (hi : i < v.l.length) (h : j ≠ i) : lat (zoh v i r ep).l j = lat v.l j := by
 rcases zjc v i r ep with e | e | e
 ·
  rw [zg5 e.1]
 ·
  rw [zln e.1]; show lat (v.l.set i _) j = _; rw [zkf hi, if_neg h]
 ·
  rw [zl0 e.1]; show lat (v.l.set i _) j = _; rw [zkf hi, if_neg h]
theorem yhr (hm : mayV v = true) (hi : i < v.l.length) : mayV (zoh v i r ep) = true := by
 have hm' := zcg.1 hm
 obtain ⟨h1, h8, hok⟩ := hm'
 rcases zjc v i r ep with e | ⟨e, e1, _⟩ | ⟨e, e1, _⟩
 ·
  rw [zg5 e.1]; exact hm
 ·
  rw [zln e]
  refine zcg.2 ⟨by show 1 ≤ (v.l.set i _).length; rw [List.length_set]; exact h1, by show (v.l.set i _).length ≤ 8; rw [List.length_set]; exact h8, fun j hj => zdq.2 ⟨fun q => by show j < (v.l.set i _).length; rw [List.length_set]; exact (zdq.1 (hok j hj)).1 q, fun q1 q2 => ?_⟩⟩
  have q1' : j < v.l.length := by have : j < (v.l.set i (Lt.mk true r ep)).length := q1; rwa [List.length_set] at this
  show lat (v.l.set i _) j = zlt
  have q2' : hasB v.out j = true ∨ (lat (v.l.set i ⟨true, r, ep⟩) j).has = false := q2
  rw [zkf hi] at q2' ⊢
  by_cases e2 : j = i
  ·
   subst e2; rw [if_pos rfl, e1] at q2'; rcases q2' with q | q <;> cases q
  ·
   rw [if_neg e2] at q2' ⊢; exact (zdq.1 (hok j hj)).2 q1' q2'
 ·
  rw [zl0 e]
  have hi64 : i < 64 := by omega
  refine zcg.2 ⟨by show 1 ≤ (v.l.set i _).length; rw [List.length_set]; exact h1, by show (v.l.set i _).length ≤ 8; rw [List.length_set]; exact h8, fun j hj => zdq.2 ⟨fun q => ?_, fun q1 q2 => ?_⟩⟩
  ·
   show j < (v.l.set i _).length
   rw [List.length_set]
   have q' : hasB (v.out + bitU i) j = true := q
   rw [ybf hi64 e1, Bool.or_eq_true, decide_eq_true_iff] at q'
   rcases q' with q | q
   ·
    exact (zdq.1 (hok j hj)).1 q
   ·
    omega
  ·
   have q1' : j < v.l.length := by have : j < (v.l.set i zlt).length := q1; rwa [List.length_set] at this
   show lat (v.l.set i zlt) j = zlt
   have q2' : hasB (v.out + bitU i) j = true ∨ (lat (v.l.set i zlt) j).has = false := q2
   rw [zkf hi] at q2' ⊢
   by_cases e2 : j = i
   ·
    rw [if_pos e2]
   ·
    rw [if_neg e2] at q2' ⊢
    rw [ybf hi64 e1, decide_eq_false (fun e => e2 e.symm), Bool.or_false] at q2'
    exact (zdq.1 (hok j hj)).2 q1' q2'
theorem yg4 {z : Int} (hm : mayV v = true) (h : 0 ≤ z ∧ z < v.l.length) : putV v z r ep = zoh v z.toNat r ep ∧ zr7 v z r ep = zkd v z.toNat r ep ∧ zse v z = 0 := by
 have e : inV v z = true := decide_eq_true h
 unfold putV zr7 zse
 rw [if_pos ⟨hm, e⟩, if_pos ⟨hm, e⟩, if_pos hm, if_pos e]
 exact ⟨rfl, rfl, rfl⟩
theorem yd9 {z : Int} : (putV v z r ep).l.length = v.l.length := by unfold putV; split; (· exact yjk); (· rfl)
theorem drop_len {keep : List Rt} : (zmt v keep).l.length = v.l.length := by unfold zmt; split; (· simp); (· rfl)
theorem ytp {n : Int} : (newV n).l.length ≤ 8 := by
 unfold newV
 by_cases h : zfb n = true
 ·
  have := of_decide_eq_true h
  rw [if_pos h]; simp; omega
 ·
  rw [if_neg h]; simp
theorem ydx {n : Int} (h : zfb n = true) : mayV (newV n) = true ∧ (newV n).l.length = n.toNat ∧ (newV n).out = 0 ∧ ∀ i, lat (newV n).l i = zlt := by
 have h' := of_decide_eq_true h
 have e : newV n = ⟨List.replicate n.toNat zlt, 0⟩ := by unfold newV; rw [if_pos h]
 have hl : ∀ i, lat (List.replicate n.toNat zlt) i = zlt := fun i => by
  unfold lat
  rw [List.getD_eq_getElem?_getD, List.getElem?_replicate]
  split <;> rfl
 rw [e]
 refine ⟨zcg.2 ⟨by simp; omega, by simp; omega, fun i _ => zdq.2 ⟨fun q => ?_, fun _ _ => hl i⟩⟩, by simp, rfl, hl⟩
 have : hasB 0 i = true := q
 rw [yf7] at this
 cases this
theorem z0j {keep : List Rt} (hm : mayV v = true) : zmt v keep = ⟨v.l.map fun x => if zr9 keep x = true then x else zlt, v.out⟩ := by unfold zmt; rw [if_pos hm]
theorem z44 {keep : List Rt} (hm : mayV v = true) (hi : i < v.l.length) : lat (zmt v keep).l i = if zr9 keep (lat v.l i) = true then lat v.l i else zlt := by
 rw [z0j hm]
 show lat (v.l.map _) i = _
 rw [zqm (by rw [List.length_map]; exact hi), zqm hi, List.getElem_map]
theorem yid {keep : List Rt} (hm : mayV v = true) : mayV (zmt v keep) = true := by
 obtain ⟨h1, h8, hok⟩ := zcg.1 hm
 refine zcg.2 ⟨by rw [drop_len]; exact h1, by rw [drop_len]; exact h8, fun j hj => zdq.2 ⟨fun q => ?_, fun q1 q2 => ?_⟩⟩
 ·
  rw [drop_len]
  rw [z0j hm] at q
  exact (zdq.1 (hok j hj)).1 q
 ·
  rw [drop_len] at q1
  rw [z44 hm q1] at q2 ⊢
  by_cases e : zr9 keep (lat v.l j) = true
  ·
   rw [if_pos e] at q2 ⊢
   refine (zdq.1 (hok j hj)).2 q1 ?_
   rw [z0j hm] at q2
   exact q2
  ·
   rw [if_neg e]
end
end Go.Proofs.YtmihlihlpdkdcaaGreat
