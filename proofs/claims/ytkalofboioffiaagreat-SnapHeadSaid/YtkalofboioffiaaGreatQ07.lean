import Derived.Test.YtkalofboioffiaaGreatQ06
namespace Go.Proofs.YtkalofboioffiaaGreat
open Go.RowKit
set_option maxRecDepth 200000
set_option maxHeartbeats 64000000
section
open Go.RowKit
structure Nt where
 ver : Int
 head : Rt
 fin : Ck
def ntL (x : Nt) : List Value := [.int .i64 x.ver] ++ ((rc x.head).toList ++ ((cc x.fin).toList))
def nt (x : Nt) : Array Value := (ntL x).toArray
theorem ym4 (x : Nt) : (nt x).toList = ntL x := rfl
theorem yqa (x : Nt) : (ntL x).length = 66 := by simp [ntL, zav, za5]
theorem zqx (x : Nt) : (nt x).size = 66 := by rw [← Array.length_toList, ym4, yqa]
theorem yqb (x : Nt) : ∀ v ∈ ntL x, v.oneCell' = true := by
 intro v hv
 unfold ntL at hv
 simp only [List.mem_append, List.mem_singleton] at hv
 rcases hv with rfl | hv | hv
 ·
  rfl
 ·
  exact zis _ v hv
 ·
  exact zgs _ v (by rw [zby] at hv; exact hv)
@[go_sem] theorem yt0 (x : Nt) : okA 66 (.agg (nt x)) = true := by
 show ((nt x).size == 66 && (nt x).all (·.oneCell')) = true
 rw [show (nt x).all (·.oneCell') = true from zea (yqb x), zqx]; rfl
def znt : Nt := ⟨0, zr, zcc⟩
theorem yee (w : World) : (zeroValue 54).run Tryz.prog w = .ok (.agg (nt znt)) w := by kernel_rfl
@[go_sem ↓] theorem ysd (ρ : Operand → Value) (dst : Option Tmp) (x y : Operand) (ty : TypeId) (pos : String) (after : Array Edge) (guard : Option (Nat × Bool)) (w : World) :
  (execOp ρ { dst, op := .store 54 x y, type := ty, pos, after, guard }).run Tryz.prog w = zjo (wrA w (ρ x) 66 && okA 66 (ρ y)) (stA w (ρ x) (ρ y)) (zbn Tryz.prog ρ { dst, op := .store 54 x y, type := ty, pos, after, guard } w) :=
 zbm Tryz.sizeOf54 ρ dst x y ty pos after guard w
@[go_sem ↓] theorem yro (ρ : Operand → Value) (dst : Option Tmp) (ty : TypeId) (pos : String) (after : Array Edge) (guard : Option (Nat × Bool)) (w : World) :
  (execOp ρ { dst, op := .alloc 54, type := ty, pos, after, guard }).run Tryz.prog w = .ok (.value (.pointer (some ⟨w.heap.size, 0, none⟩))) (w.alloc (.cells (nt znt) 54)) := by
 unfold execOp
 simp only [Instr.alloc, Sem.run_bind, yee, Result.andThen_ok]
 rfl
def places_nt : List (Nat × Nat) := [(0, 1), (1, 32), (33, 33)]
theorem yaf : ∀ w : World, ((Tryz.prog.fieldsOf 54).mapM (m := Sem) fun f => do pure (f.offset, ← Go.sizeOf f.type)).run Tryz.prog w = .ok places_nt.toArray w := fun _ => by kernel_rfl
theorem yir : Tryz.prog.underlying 54 = some (.struct (Tryz.prog.fieldsOf 54)) := by kernel_rfl
@[go_sem ↓] theorem yrz (ρ : Operand → Value) (dst : Option Tmp) (p : Nat × Operand) (ps : List (Nat × Operand)) (ty : TypeId) (pos : String) (after : Array Edge) (guard : Option (Nat × Bool)) (w : World) :
  (execOp ρ { dst, op := .build 54 (p :: ps).toArray, type := ty, pos, after, guard }).run Tryz.prog w = zg7 ((zh2 places_nt (nt znt) ((p.1, ρ p.2) :: ps.map fun p => (p.1, ρ p.2))).map .agg) w (zbn Tryz.prog ρ { dst, op := .build 54 (p :: ps).toArray, type := ty, pos, after, guard } w) :=
 zcg yee yir yaf ρ dst (p :: ps).toArray ty pos after guard w
attribute [go_sem] places_nt zqx
theorem zlr (x : Nt) : ntL x = ([]) ++ ([.int .i64 x.ver] ++ ((rc x.head).toList ++ ((cc x.fin).toList))) ∧ ([] : List Value).length = 0 := by
 constructor
 ·
  unfold ntL; simp
 ·
  rfl
theorem z6u (x : Nt) : (nt x)[0]? = some (.int .i64 x.ver) := zij (zlr x).1 (zlr x).2
theorem z6w (x : Nt) (y : Int) : za2 (nt x) 0 #[.int .i64 y] = nt { x with ver := y } := by
 rw [za3 (c := nt x) (r := #[.int .i64 y]) (zlr x).1 (zlr x).2 rfl]
 simp [nt, ntL]
theorem ztk (x : Nt) : ntL x = ([.int .i64 x.ver]) ++ ((rc x.head).toList ++ ((cc x.fin).toList)) ∧ ([.int .i64 x.ver] : List Value).length = 1 := by
 constructor
 ·
  unfold ntL; simp
 ·
  simp
theorem z1e (x : Nt) (y : Rt) : za2 (nt x) 1 (rc y) = nt { x with head := y } := by
 rw [za3 (c := nt x) (ztk x).1 (ztk x).2 (by simp [zav])]
 simp [nt, ntL]
theorem zym (x : Nt) : ntL x = ([.int .i64 x.ver] ++ (rc x.head).toList) ++ ((cc x.fin).toList ++ ([])) ∧ ([.int .i64 x.ver] ++ (rc x.head).toList : List Value).length = 33 := by
 constructor
 ·
  unfold ntL; simp
 ·
  simp [zav]
theorem z6v (x : Nt) (y : Ck) : za2 (nt x) 33 (cc y) = nt { x with fin := y } := by
 rw [za3 (c := nt x) (zym x).1 (zym x).2 (by simp [za5])]
 simp [nt, ntL]
attribute [go_sem] z6w z1e z6v
section
open Go.WideShapes Go.ChangeShapes
variable {H : Type} {enc : TypeId × Value → H} {w : World} {base : Nat} {sp : Nat → Bool} {held : Bool}
end
attribute [irreducible] nt
end
section
variable {l : List Nd}
theorem zd3 (x : Nd) {i : Nat} (h : i < l.length) : nd (l ++ [x]) i = nd l i := by
 unfold nd
 simp only [List.getD_eq_getElem?_getD]
 rw [List.getElem?_append_left h]
theorem zm1 (x : Nd) : nd (l ++ [x]) l.length = x := by
 unfold nd
 simp
def posR (l : List Nd) (r : Rt) : Nat := l.findIdx fun n => decide (n.root = r)
def zal (l : List Nd) (r : Rt) : Int := if MayT l ∧ posR l r < l.length then posR l r else -1
theorem ynf {r : Rt} (h : posR l r < l.length) : (nd l (posR l r)).root = r := by
 rw [zqn l h]
 have : (fun n : Nd => decide (n.root = r)) (l[posR l r]'h) = true := List.findIdx_getElem (w := h)
 simpa using this
theorem z1l {r : Rt} {i : Nat} (hi : i < posR l r) (hl : i < l.length) : (nd l i).root ≠ r := by
 rw [zqn l hl]
 have := List.not_of_lt_findIdx hi
 simpa using this
theorem zck (h : MayT l) (r : Rt) : (∃ i : Nat, i < l.length ∧ zal l r = i ∧ (nd l i).root = r) ∨ (zal l r = -1 ∧ ∀ i, i < l.length → (nd l i).root ≠ r) := by
 by_cases hp : posR l r < l.length
 ·
  exact .inl ⟨_, hp, by unfold zal; rw [if_pos ⟨h, hp⟩], ynf hp⟩
 ·
  exact .inr ⟨by unfold zal; rw [if_neg (fun e => hp e.2)], fun i hi => z1l (by omega) hi⟩
theorem zeh (h : MayT l) {i : Nat} (hi : i < l.length) : zal l (nd l i).root = i := by
 rcases zck h (nd l i).root with ⟨k, hk, e, hr⟩ | ⟨_, hn⟩
 ·
  rw [e, h.roots hk hi hr]
 ·
  exact absurd rfl (hn i hi)
theorem ygc (h : ¬ MayT l) (r : Rt) : zal l r = -1 := by unfold zal; rw [if_neg (fun e => h e.1)]
theorem yaj (r : Rt) : -1 ≤ zal l r := by unfold zal; split <;> omega
def insE (l : List Nd) (r p : Rt) (s : UInt64) : Nat :=
 if ¬ MayT l then 1 else if 0 ≤ zal l r then 4 else if zal l p < 0 then 5 else if s.toNat ≤ sl l (zal l p).toNat ∨ 1099511627776 < s.toNat then 6 else if l.length = 12 then 3 else 0
def insN (l : List Nd) (r p : Rt) (s j : UInt64) : Nd := ⟨r, zal l p, s, j⟩
def insL (l : List Nd) (r p : Rt) (s j : UInt64) : List Nd := if insE l r p s = 0 then l ++ [insN l r p s j] else l
theorem zp4 {r p : Rt} {s : UInt64} (h : insE l r p s = 0) : MayT l ∧ zal l r = -1 ∧ (∃ q : Nat, zal l p = q ∧ q < l.length ∧ (nd l q).root = p ∧ sl l q < s.toNat) ∧ s.toNat ≤ 1099511627776 ∧ l.length < 12 := by
 unfold insE at h
 split at h
 ·
  cases h
 ·
  rename_i hm
  have hm : MayT l := Classical.not_not.1 hm
  split at h
  ·
   cases h
  ·
   split at h
   ·
    cases h
   ·
    split at h
    ·
     cases h
    ·
     split at h
     ·
      cases h
     ·
      rename_i h1 h2 h3 h4
      rcases zck hm p with ⟨q, hq, e, hr⟩ | ⟨e, _⟩
      ·
       refine ⟨hm, ?_, ⟨q, e, hq, hr, ?_⟩, by omega, by have := hm.le; omega⟩
       ·
        have := yaj (l := l) r; omega
       ·
        rw [e] at h3
        have : (q : Int).toNat = q := by omega
        rw [this] at h3
        omega
      ·
       omega
theorem yg0 (h : MayT l) {x : Nd} (hl : l.length < 12) (hs : x.slot.toNat ≤ 1099511627776) {q : Nat} (hq : q < l.length) (hp : x.parent = q) (hsl : sl l q < x.slot.toNat) (hr : ∀ i, i < l.length → (nd l i).root ≠ x.root) : MayT (l ++ [x]) := by
 refine ⟨by simp, by simp; omega, fun i hi => ?_⟩
 simp at hi
 by_cases e : i < l.length
 ·
  obtain ⟨h1, h2, h3, h4⟩ := h.2.2 i e
  refine ⟨?_, ?_, fun h0 => ?_, fun k hk => ?_⟩
  ·
   unfold sl; rw [zd3 x e]; exact h1
  ·
   rw [zd3 x e]; exact h2
  ·
   obtain ⟨a, b, c⟩ := h3 h0
   unfold up sl at *
   rw [zd3 x e]
   refine ⟨a, b, ?_⟩
   rw [zd3 x (show (nd l i).parent.toNat < l.length by omega)]
   exact c
  ·
   rw [zd3 x e, zd3 x (by omega)]; exact h4 k hk
 ·
  obtain rfl : i = l.length := by omega
  refine ⟨?_, fun h0 => ?_, fun _ => ?_, fun k hk => ?_⟩
  ·
   unfold sl; rw [zm1]; exact hs
  ·
   have := h.pos; omega
  ·
   unfold up sl
   rw [zm1, hp]
   refine ⟨by omega, by omega, ?_⟩
   rw [show (q : Int).toNat = q by omega, zd3 x hq]
   exact hsl
  ·
   rw [zm1, zd3 x hk]; exact hr k hk
theorem zu2 {r p : Rt} {s : UInt64} (j : UInt64) (h : insE l r p s = 0) : MayT (l ++ [insN l r p s j]) := by
 obtain ⟨hm, hr, ⟨q, e, hq, _, hsl⟩, hs, hl⟩ := zp4 h
 refine yg0 hm hl hs hq e hsl fun i hi he => ?_
 have := zeh hm hi
 rw [he] at this
 have : zal l r = i := this
 omega
theorem yax {r p : Rt} {s : UInt64} (j : UInt64) (h : insE l r p s = 0) : insE (l ++ [insN l r p s j]) r p s = 4 ∧ zal (l ++ [insN l r p s j]) r = l.length := by
 have hm := zu2 j h
 have hf : zal (l ++ [insN l r p s j]) r = l.length := by
  have := zeh hm (i := l.length) (by simp)
  rw [zm1] at this
  exact this
 refine ⟨?_, hf⟩
 unfold insE
 rw [if_neg (Classical.not_not.2 hm), if_pos (by rw [hf]; omega)]
theorem yds (x : Nd) {i : Nat} (h : i < l.length) : up (l ++ [x]) i = up l i := by unfold up; rw [zd3 x h]
theorem zmg {x : Nd} (h : MayT l) (h' : MayT (l ++ [x])) (i : Nat) : ∀ k, k < l.length → zao (l ++ [x]) i k = zao l i k := by
 intro k
 induction k using Nat.strongRecOn with
 | _ k ih =>
  intro hk
  by_cases h0 : k = 0
  ·
   subst h0; rw [zb1, zb1]
  ·
   obtain ⟨_, hu, _⟩ := h.par (Nat.pos_of_ne_zero h0) hk
   rw [zod h' i (Nat.pos_of_ne_zero h0) (by simp; omega), zod h i (Nat.pos_of_ne_zero h0) hk, yds x hk, ih _ hu (by omega)]
theorem zr3 {x : Nd} (h' : MayT (l ++ [x])) {i : Nat} (hi : i < l.length) : zao (l ++ [x]) l.length i = false := by
 rw [← Bool.not_eq_true]
 intro e
 have := ze7 h' _ i (by simp; omega) e
 omega
def zjn (l : List Nd) (i : Nat) : List Nat := (List.range l.length).filter fun k => decide ((nd l k).parent = (i : Int))
theorem zes {i k : Nat} : k ∈ zjn l i ↔ k < l.length ∧ (nd l k).parent = (i : Int) := by
 unfold zjn; rw [List.mem_filter, List.mem_range, decide_eq_true_iff]
theorem zu3 (h : MayT l) {i k : Nat} (hk : k ∈ zjn l i) : i < k ∧ sl l i < sl l k ∧ up l k = i := by
 obtain ⟨h1, h2⟩ := zes.1 hk
 by_cases h0 : k = 0
 ·
  subst h0; rw [h.first] at h2; omega
 ·
  obtain ⟨e, hu, hs⟩ := h.par (Nat.pos_of_ne_zero h0) h1
  have : up l k = i := by omega
  rw [this] at hu hs
  exact ⟨hu, hs, this⟩
end
section
variable (p : Nat → Bool)
def zgp (k : Nat) : Nat := ((List.range k).filter p).length
theorem z1p {k n : Nat} (h : k ≤ n) : List.range n = List.range k ++ List.range' k (n - k) := by
 have e : n = k + (n - k) := by omega
 have := List.range'_append_1 (s := 0) (m := k) (n := n - k)
 rw [Nat.zero_add, ← e] at this
 rw [List.range_eq_range', List.range_eq_range', this]
theorem zv0 {k n : Nat} (h : k < n) (hp : p k = true) : ((List.range n).filter p)[zgp p k]? = some k := by
 unfold zgp
 rw [z1p (Nat.le_of_lt h), List.filter_append, List.getElem?_append_right (Nat.le_refl _), Nat.sub_self]
 rw [show n - k = (n - k - 1) + 1 by omega, List.range'_succ, List.filter_cons, if_pos hp]
 rfl
theorem ycq {k n : Nat} (h : k < n) (hp : p k = true) : zgp p k < ((List.range n).filter p).length := (List.getElem?_eq_some_iff.1 (zv0 p h hp)).1
theorem zir {a b : Nat} (h : a < b) (hp : p a = true) : zgp p a < zgp p b := ycq p h hp
theorem zou {a b : Nat} (ha : p a = true) (hb : p b = true) (e : zgp p a = zgp p b) : a = b := by
 rcases Nat.lt_trichotomy a b with h | h | h
 ·
  have := zir p h ha; omega
 ·
  exact h
 ·
  have := zir p h hb; omega
theorem yht {n m : Nat} (h : m < ((List.range n).filter p).length) : ∃ k, k < n ∧ p k = true ∧ zgp p k = m := by
 have hk : ((List.range n).filter p)[m] ∈ (List.range n).filter p := List.getElem_mem h
 rw [List.mem_filter, List.mem_range] at hk
 refine ⟨_, hk.1, hk.2, ?_⟩
 have h1 := zv0 p hk.1 hk.2
 obtain ⟨h2, h3⟩ := List.getElem?_eq_some_iff.1 h1
 have hr := List.pairwise_iff_getElem.1 (List.Pairwise.filter p (List.pairwise_lt_range (n := n)))
 rcases Nat.lt_trichotomy (zgp p ((List.range n).filter p)[m]) m with h4 | h4 | h4
 ·
  have := hr _ _ h2 h h4; omega
 ·
  exact h4
 ·
  have := hr _ _ h h2 h4; omega
theorem ycs {i : Nat} (h : ∀ k, p k = true → i ≤ k) : zgp p i = 0 := by
 unfold zgp
 rw [List.length_eq_zero_iff, List.filter_eq_nil_iff]
 intro a ha e
 have := h a e
 rw [List.mem_range] at ha
 omega
theorem ycr (k : Nat) : zgp p (k + 1) = zgp p k + if p k = true then 1 else 0 := by
 unfold zgp
 rw [List.range_succ, List.filter_append, List.length_append]
 congr 1
 by_cases h : p k = true
 ·
  simp [h]
 ·
  simp [h]
end
def zbw (l : List Nd) (i k : Nat) : Bool := decide (k < l.length) && zao l i k
def zbo (l : List Nd) (i k : Nat) : Nat := zgp (zbw l i) k
def cutN (l : List Nd) (i k : Nat) : Nd := { nd l k with parent := if k = i then -1 else (zbo l i (up l k) : Int) }
def ygk (l : List Nd) (i : Nat) : List Nat := (List.range l.length).filter (zbw l i)
def cutL (l : List Nd) (i : Nat) : List Nd := (ygk l i).map (cutN l i)
section
variable {l : List Nd}
theorem zaz {i k : Nat} : zbw l i k = true ↔ k < l.length ∧ zao l i k = true := by
 unfold zbw; rw [Bool.and_eq_true, decide_eq_true_iff]
theorem zfv (h : MayT l) {i : Nat} (hi : i < l.length) : zbw l i i = true := zaz.2 ⟨hi, zb8 h hi⟩
theorem zke (h : MayT l) {i k : Nat} (hk : zbw l i k = true) : i ≤ k := ze7 h i k (zaz.1 hk).1 (zaz.1 hk).2
theorem zc8 (h : MayT l) (i : Nat) : zbo l i i = 0 := ycs _ fun _ hk => zke h hk
theorem zud {i : Nat} : (cutL l i).length = (ygk l i).length := by unfold cutL; rw [List.length_map]
theorem zc0 {i k : Nat} (hk : zbw l i k = true) : zbo l i k < (cutL l i).length := by
 rw [zud]; exact ycq _ (zaz.1 hk).1 hk
theorem zpg {i k : Nat} (hk : zbw l i k = true) : nd (cutL l i) (zbo l i k) = cutN l i k := by
 unfold nd cutL
 rw [List.getD_eq_getElem?_getD, List.getElem?_map]
 have := zv0 (zbw l i) (zaz.1 hk).1 hk
 unfold ygk zbo
 rw [this]
 rfl
theorem zh9 {i m : Nat} (hm : m < (cutL l i).length) : ∃ k, zbw l i k = true ∧ zbo l i k = m := by
 rw [zud] at hm
 obtain ⟨k, _, hk, e⟩ := yht _ hm
 exact ⟨k, hk, e⟩
theorem zw6 {i k : Nat} (hk : zbw l i k = true) : sl (cutL l i) (zbo l i k) = sl l k := by unfold sl; rw [zpg hk]; rfl
theorem zdd {i k : Nat} (hk : zbw l i k = true) : (nd (cutL l i) (zbo l i k)).root = (nd l k).root := by rw [zpg hk]; rfl
theorem zp7 (h : MayT l) {i k : Nat} (hk : zbw l i k = true) (hne : k ≠ i) : 0 < k ∧ zbw l i (up l k) = true ∧ up l k < k ∧ sl l (up l k) < sl l k := by
 obtain ⟨h1, h2⟩ := zaz.1 hk
 have h0 : 0 < k := by
  rcases Nat.eq_zero_or_pos k with e | e
  ·
   subst e; rw [zb1, decide_eq_true_iff] at h2; omega
  ·
   exact e
 obtain ⟨_, hu, hs⟩ := h.par h0 h1
 rcases (zbq h i h0 h1).1 h2 with e | e
 ·
  omega
 ·
  exact ⟨h0, zaz.2 ⟨by omega, e⟩, hu, hs⟩
theorem z9r (h : MayT l) {i k : Nat} (hk : zbw l i k = true) (hne : k ≠ i) : up (cutL l i) (zbo l i k) = zbo l i (up l k) := by
 have _ := h
 unfold up
 rw [zpg hk]
 show (if k = i then (-1 : Int) else (zbo l i (up l k) : Int)).toNat = _
 rw [if_neg hne]
 show ((zbo l i (up l k) : Nat) : Int).toNat = zbo l i (up l k)
 omega
theorem zee (h : MayT l) {i : Nat} (hi : i < l.length) : MayT (cutL l i) := by
 have hs := zfv h hi
 refine ⟨?_, ?_, fun m hm => ?_⟩
 ·
  have := zc0 hs; omega
 ·
  rw [zud]
  have : (ygk l i).length ≤ (List.range l.length).length := List.length_filter_le _ _
  rw [List.length_range] at this
  have := h.le
  omega
 ·
  obtain ⟨k, hk, rfl⟩ := zh9 hm
  have hkl := (zaz.1 hk).1
  refine ⟨by rw [zw6 hk]; exact h.slot hkl, fun h0 => ?_, fun h0 => ?_, fun m' hm' => ?_⟩
  ·
   have : k = i := zou _ hk hs (h0.trans (zc8 h i).symm)
   rw [zpg hk]
   unfold cutN
   rw [if_pos this]
  ·
   have hne : k ≠ i := fun e => by subst e; rw [zc8 h k] at h0; omega
   obtain ⟨_, hu, hlt, hsl⟩ := zp7 h hk hne
   have e : (nd (cutL l i) (zbo l i k)).parent = (zbo l i (up l k) : Int) := by
    rw [zpg hk]; unfold cutN; rw [if_neg hne]
   refine ⟨by rw [e]; omega, ?_, ?_⟩
   ·
    rw [e]
    have := zir (zbw l i) hlt hu
    unfold zbo
    omega
   ·
    rw [z9r h hk hne, zw6 hu, zw6 hk]; exact hsl
  ·
   obtain ⟨k', hk', rfl⟩ := zh9 (show m' < (cutL l i).length by omega)
   rw [zdd hk, zdd hk']
   intro e
   have := h.roots (zaz.1 hk').1 hkl e
   subst this
   omega
theorem zuc (h : MayT l) {i a : Nat} (hi : i < l.length) (ha : a < l.length) : zal (cutL l i) (nd l a).root = if zao l i a = true then (zbo l i a : Int) else -1 := by
 have hc := zee h hi
 by_cases hab : zao l i a = true
 ·
  have hk : zbw l i a = true := zaz.2 ⟨ha, hab⟩
  rw [if_pos hab, ← zdd hk]
  exact zeh hc (zc0 hk)
 ·
  rw [if_neg hab]
  rcases zck hc (nd l a).root with ⟨m, hm, _, hr⟩ | ⟨e, _⟩
  ·
   obtain ⟨k, hk, rfl⟩ := zh9 hm
   rw [zdd hk] at hr
   have := h.roots (zaz.1 hk).1 ha hr
   subst this
   exact absurd (zaz.1 hk).2 hab
  ·
   exact e
theorem z9q (h : MayT l) {i : Nat} (hi : i < l.length) : (nd (cutL l i) 0).root = (nd l i).root := by
 have := zdd (zfv h hi)
 rwa [zc8 h i] at this
theorem zgt (h : MayT l) {i a : Nat} (hi : i < l.length) (ha : zbw l i a = true) : ∀ b, zbw l i b = true → zao (cutL l i) (zbo l i a) (zbo l i b) = zao l a b := by
 have hc := zee h hi
 intro b
 induction b using Nat.strongRecOn with
 | _ b ih =>
  intro hb
  have hbl := (zaz.1 hb).1
  by_cases hbi : b = i
  ·
   subst hbi
   rw [zc8 h b, zb1, Bool.eq_iff_iff, decide_eq_true_iff]
   constructor
   ·
    intro e
    have : a = b := zou _ ha hb (e.trans (zc8 h b).symm)
    subst this
    exact zb8 h hbl
   ·
    intro e
    have h1 := ze7 h a b hbl e
    have h2 := zke h ha
    have : a = b := by omega
    subst this
    exact zc8 h a
  ·
   obtain ⟨h0, hu, hlt, _⟩ := zp7 h hb hbi
   have hr0 : 0 < zbo l i b := by
    have := zir (zbw l i) (show i < b by have := zke h hb; omega) (zfv h hi)
    unfold zbo; omega
   rw [Bool.eq_iff_iff, zbq hc _ hr0 (zc0 hb), zbq h a h0 hbl, z9r h hb hbi, ih _ hlt hu]
   constructor
   ·
    rintro (e | e)
    ·
     exact .inl (zou _ ha hb e)
    ·
     exact .inr e
   ·
    rintro (e | e)
    ·
     subst e; exact .inl rfl
    ·
     exact .inr e
theorem zt4 (h : MayT l) {i s : Nat} (hi : i < l.length) (hs : sl l i ≤ s) : atT l i s = i := by
 by_cases h0 : i = 0
 ·
  subst h0; rw [zmi, if_pos hs]; rfl
 ·
  rw [zwy h s (Nat.pos_of_ne_zero h0) hi, if_pos hs]
theorem yje (h : MayT l) {i : Nat} (hi : i < l.length) (s : Nat) : ∀ a, zbw l i a = true → atT (cutL l i) (zbo l i a) s = if sl l i ≤ s then (zbo l i (atT l a s).toNat : Int) else -1 := by
 have hc := zee h hi
 intro a
 induction a using Nat.strongRecOn with
 | _ a ih =>
  intro ha
  have hal := (zaz.1 ha).1
  by_cases hai : a = i
  ·
   subst hai
   rw [zc8 h a, zmi]
   have e : sl (cutL l a) 0 = sl l a := by have := zw6 ha; rwa [zc8 h a] at this
   rw [e]
   by_cases hs : sl l a ≤ s
   ·
    rw [if_pos hs, if_pos hs, zt4 h hal hs]
    have : ((a : Int)).toNat = a := by omega
    rw [this, zc8 h a]; rfl
   ·
    rw [if_neg hs, if_neg hs]
  ·
   obtain ⟨h0, hu, hlt, _⟩ := zp7 h ha hai
   have hr0 : 0 < zbo l i a := by
    have := zir (zbw l i) (show i < a by have := zke h ha; omega) (zfv h hi)
    unfold zbo; omega
   rw [zwy hc s hr0 (zc0 ha), zw6 ha, z9r h ha hai, ih _ hlt hu, zwy h s h0 hal]
   by_cases hs : sl l a ≤ s
   ·
    rw [if_pos hs, if_pos hs]
    have := zsg h a hal (zaz.1 ha).2
    rw [if_pos (by omega)]
    have : ((a : Int)).toNat = a := by omega
    rw [this]
   ·
    rw [if_neg hs, if_neg hs]
theorem z8z (h : MayT l) {i a s : Nat} (ha : zbw l i a = true) (hs : sl l i ≤ s) : ∃ q : Nat, atT l a s = q ∧ zbw l i q = true := by
 obtain ⟨hal, hia⟩ := zaz.1 ha
 rcases zt5 h s a hal with ⟨_, hn⟩ | ⟨q, e, hq, _, _, hall⟩
 ·
  have := hn i hia; omega
 ·
  exact ⟨q, e, zaz.2 ⟨hq, hall i hia hs⟩⟩
end
def isT (l : List Nd) (i : Int) : Bool := decide (MayT l) && (decide (0 ≤ i) && decide (i < l.length))
def zb0 (l : List Nd) (i k : Int) : Bool := (isT l i && isT l k) && zao l i.toNat k.toNat
def atZ (l : List Nd) (i : Int) (s : Nat) : Int := if isT l i = true then atT l i.toNat s else -1
def z57 (l : List Nd) (i : Int) : List Nat := if isT l i = true then zjn l i.toNat else []
def cutZ (l : List Nd) (i : Int) : List Nd := if isT l i = true then cutL l i.toNat else []
section
variable {l : List Nd}
theorem zdi {i : Int} : isT l i = true ↔ MayT l ∧ 0 ≤ i ∧ i < l.length := by
 unfold isT
 rw [Bool.and_eq_true, Bool.and_eq_true, decide_eq_true_iff, decide_eq_true_iff, decide_eq_true_iff]
theorem zhh (h : MayT l) {i : Nat} (hi : i < l.length) : isT l (i : Int) = true := zdi.2 ⟨h, by omega, by omega⟩
theorem zb6 (h : MayT l) {i k : Nat} (hi : i < l.length) (hk : k < l.length) : zb0 l (i : Int) (k : Int) = zao l i k := by
 unfold zb0
 rw [zhh h hi, zhh h hk]
 simp
theorem zjy (h : MayT l) {i : Nat} (hi : i < l.length) (s : Nat) : atZ l (i : Int) s = atT l i s := by
 unfold atZ
 rw [if_pos (zhh h hi)]
 simp
theorem zp8 (h : MayT l) {i : Nat} (hi : i < l.length) : z57 l (i : Int) = zjn l i := by
 unfold z57
 rw [if_pos (zhh h hi)]
 simp
theorem yfp (h : MayT l) {i : Nat} (hi : i < l.length) : cutZ l (i : Int) = cutL l i := by
 unfold cutZ
 rw [if_pos (zhh h hi)]
 simp
theorem ymk (h : MayT l) {i a b s : Nat} (hi : i < l.length) (ha : a < l.length) (hb : b < l.length) :
  MayT (cutL l i) ∧ (nd (cutL l i) 0).root = (nd l i).root ∧
  ((
   zal (cutL l i) (nd l a).root = -1 ∧ zao l i a = false) ∨ ∃ x : Nat, zal (cutL l i) (nd l a).root = x ∧ x < (cutL l i).length ∧ zao l i a = true ∧
   (zal (cutL l i) (nd l b).root = -1 ∨ ∃ y : Nat, zal (cutL l i) (nd l b).root = y ∧ y < (cutL l i).length ∧ zao (cutL l i) x y = zao l a b) ∧
   ((s < sl l i ∧ atT (cutL l i) x s = -1) ∨ (sl l i ≤ s ∧ ∃ p q : Nat, atT (cutL l i) x s = p ∧ atT l a s = q ∧ p < (cutL l i).length ∧ q < l.length ∧ (nd (cutL l i) p).root = (nd l q).root))) := by
 refine ⟨zee h hi, z9q h hi, ?_⟩
 rw [zuc h hi ha, zuc h hi hb]
 by_cases hab : zao l i a = true
 ·
  rw [if_pos hab]
  have hka : zbw l i a = true := zaz.2 ⟨ha, hab⟩
  refine .inr ⟨zbo l i a, rfl, zc0 hka, hab, ?_, ?_⟩
  ·
   by_cases hbb : zao l i b = true
   ·
    rw [if_pos hbb]
    have hkb : zbw l i b = true := zaz.2 ⟨hb, hbb⟩
    exact .inr ⟨zbo l i b, rfl, zc0 hkb, zgt h hi hka b hkb⟩
   ·
    rw [if_neg hbb]; exact .inl rfl
  ·
   rw [yje h hi s a hka]
   by_cases hs : sl l i ≤ s
   ·
    obtain ⟨q, e, hq⟩ := z8z h hka hs
    rw [if_pos hs, e]
    have : ((q : Int)).toNat = q := by omega
    rw [this]
    exact .inr ⟨hs, zbo l i q, q, rfl, rfl, zc0 hq, (zaz.1 hq).1, zdd hq⟩
   ·
    rw [if_neg hs]; exact .inl ⟨by omega, rfl⟩
 ·
  rw [if_neg hab]
  exact .inl ⟨rfl, by simpa using hab⟩
end
def sumF (f : Nat → Nat) : Nat → Nat
 | 0 => 0
 | n + 1 => sumF f n + f n
theorem zl3 (f g : Nat → Nat) : ∀ n, sumF (fun k => f k + g k) n = sumF f n + sumF g n
 | 0 => rfl
 | n + 1 => by simp only [sumF]; rw [zl3 f g n]; omega
theorem zbu {f g : Nat → Nat} : ∀ n, (∀ k, k < n → f k = g k) → sumF f n = sumF g n
 | 0, _ => rfl
 | n + 1, h => by simp only [sumF]; rw [zbu n (fun k hk => h k (by omega)), h n (by omega)]
theorem zey : ∀ n, sumF (fun _ => 0) n = 0
 | 0 => rfl
 | n + 1 => by simp only [sumF]; rw [zey n]
theorem zzi (f : Nat → Nat → Nat) (m : Nat) : ∀ n, sumF (fun k => sumF (f k) m) n = sumF (fun j => sumF (fun k => f k j) n) m
 | 0 => by simp only [sumF]; rw [zey]
 | n + 1 => by
  simp only [sumF]
  rw [zzi f m n, ← zl3]
theorem z16 {f g : Nat → Nat} : ∀ n, (∀ k, k < n → f k ≤ g k) → sumF f n ≤ sumF g n
 | 0, _ => Nat.le_refl _
 | n + 1, h => by simp only [sumF]; have := z16 n (fun k hk => h k (by omega)); have := h n (by omega); omega
theorem zwd (f : Nat → Nat) {n i : Nat} (h : i < n) (hz : ∀ k, k < n → k ≠ i → f k = 0) : sumF f n = f i := by
 induction n with
 | zero => omega
 | succ n ih =>
  simp only [sumF]
  by_cases e : i = n
  ·
   subst e
   rw [zbu (g := fun _ => 0) i (fun k hk => hz k (by omega) (by omega)), zey, Nat.zero_add]
  ·
   rw [ih (by omega) (fun k hk hn => hz k (by omega) hn), hz n (by omega) (fun e2 => e e2.symm), Nat.add_zero]
theorem ztv (p : Nat → Bool) (g : Nat → Nat) : ∀ n, (((List.range n).filter p).map g).sum = sumF (fun c => if p c = true then g c else 0) n
 | 0 => rfl
 | n + 1 => by
  rw [List.range_succ, List.filter_append, List.map_append, List.sum_append, ztv p g n]
  simp only [sumF]
  congr 1
  by_cases h : p n = true <;> simp [h]
def subT (l : List Nd) (f : Nat → Nat) (i : Nat) : Nat := sumF (fun k => if zao l i k = true then f k else 0) l.length
section
variable {l : List Nd}
theorem ydk {f g : Nat → Nat} (i : Nat) (h : ∀ k, k < l.length → f k = g k) : subT l f i = subT l g i := by
 unfold subT
 refine zbu _ fun k hk => ?_
 split
 ·
  exact h k hk
 ·
  rfl
theorem ydj (f : Nat → Nat) (i : Nat) (b : Nat) (h : ∀ k, k < l.length → f k ≤ b) : subT l f i ≤ l.length * b := by
 unfold subT
 have : ∀ n, n ≤ l.length → sumF (fun k => if zao l i k = true then f k else 0) n ≤ n * b := by
  intro n
  induction n with
  | zero => intro _; simp [sumF]
  | succ n ih =>
   intro hn
   simp only [sumF]
   have h1 := ih (by omega)
   have h2 : (if zao l i n = true then f n else 0) ≤ b := by
    split
    ·
     exact h n (by omega)
    ·
     omega
   rw [Nat.add_mul, Nat.one_mul]
   omega
 exact this _ (Nat.le_refl _)
theorem yaz (h : MayT l) (i : Nat) : ∀ k, k < l.length → sumF (fun c => if (nd l c).parent = (i : Int) ∧ zao l c k = true then 1 else 0) l.length = if zao l i k = true ∧ k ≠ i then 1 else 0 := by
 intro k
 induction k using Nat.strongRecOn with
 | _ k ih =>
  intro hk
  by_cases h0 : k = 0
  ·
   subst h0
   rw [zbu (g := fun _ => 0) _ (fun c _ => ?_), zey, if_neg ?_]
   ·
    rintro ⟨h1, h2⟩
    rw [zb1, decide_eq_true_iff] at h1
    omega
   ·
    rw [if_neg]
    rintro ⟨h1, h2⟩
    rw [zb1, decide_eq_true_iff] at h2
    subst h2
    rw [h.first] at h1
    omega
  ·
   have hp := Nat.pos_of_ne_zero h0
   obtain ⟨hpar, hu, _⟩ := h.par hp hk
   have e : ∀ c, c < l.length → (if (nd l c).parent = (i : Int) ∧ zao l c k = true then 1 else 0) = (if c = k ∧ (nd l c).parent = (i : Int) then 1 else 0) + (if (nd l c).parent = (i : Int) ∧ zao l c (up l k) = true then 1 else 0) := by
    intro c _
    by_cases hc : c = k
    ·
     subst hc
     have hn : zao l c (up l c) = false := by
      rw [← Bool.not_eq_true]; intro e
      have := ze7 h c _ (by omega) e; omega
     rw [hn, zb8 h hk]
     simp
    ·
     have : zao l c k = zao l c (up l k) := by
      rw [Bool.eq_iff_iff, zbq h c hp hk]
      exact ⟨fun e => e.resolve_left hc, .inr⟩
     rw [this]
     simp [hc]
   rw [zbu _ e, zl3, ih _ hu (by omega)]
   rw [zwd (fun c => if c = k ∧ (nd l c).parent = (i : Int) then 1 else 0) hk (fun c _ hc => by rw [if_neg]; rintro ⟨h1, _⟩; exact hc h1)]
   by_cases hi : up l k = i
   ·
    have h1 : (nd l k).parent = (i : Int) := by rw [hpar, hi]
    have h2 : zao l i k = true := (zbq h i hp hk).2 (.inr (by rw [hi]; exact zb8 h (by omega)))
    rw [if_pos ⟨rfl, h1⟩, if_neg (fun e => e.2 hi), if_pos ⟨h2, by omega⟩]
   ·
    have h1 : ¬ (nd l k).parent = (i : Int) := by rw [hpar]; omega
    rw [if_neg (fun e => h1 e.2), Nat.zero_add]
    by_cases hki : k = i
    ·
     subst hki
     have hn : zao l k (up l k) = false := by
      rw [← Bool.not_eq_true]; intro e
      have := ze7 h k _ (by omega) e; omega
     rw [hn]
     simp
    ·
     have : zao l i k = zao l i (up l k) := by
      rw [Bool.eq_iff_iff, zbq h i hp hk]
      exact ⟨fun e => e.resolve_left (fun e2 => hki e2.symm), .inr⟩
     rw [this]
     simp [hi, hki]
theorem z4o (h : MayT l) (f : Nat → Nat) {i : Nat} (hi : i < l.length) : subT l f i = f i + sumF (fun c => if (nd l c).parent = (i : Int) then subT l f c else 0) l.length := by
 have e1 : sumF (fun c => if (nd l c).parent = (i : Int) then subT l f c else 0) l.length = sumF (fun c => sumF (fun k => if (nd l c).parent = (i : Int) ∧ zao l c k = true then f k else 0) l.length) l.length := by
  refine zbu _ fun c _ => ?_
  by_cases hc : (nd l c).parent = (i : Int)
  ·
   rw [if_pos hc]
   unfold subT
   refine zbu _ fun k _ => ?_
   simp [hc]
  ·
   rw [if_neg hc, zbu (g := fun _ => 0) _ (fun k _ => by rw [if_neg (fun e => hc e.1)]), zey]
 rw [e1, zzi]
 have e2 : ∀ k, k < l.length → sumF (fun c => if (nd l c).parent = (i : Int) ∧ zao l c k = true then f k else 0) l.length = if zao l i k = true ∧ k ≠ i then f k else 0 := by
  intro k hk
  have := yaz h i k hk
  have e3 : ∀ n, sumF (fun c => if (nd l c).parent = (i : Int) ∧ zao l c k = true then f k else 0) n = sumF (fun c => if (nd l c).parent = (i : Int) ∧ zao l c k = true then 1 else 0) n * f k := by
   intro n
   induction n with
   | zero => simp [sumF]
   | succ n ih =>
    simp only [sumF]
    rw [ih, Nat.add_mul]
    congr 1
    split <;> simp
  rw [e3, this]
  split <;> simp
 rw [zbu _ e2]
 have e4 : f i = sumF (fun k => if k = i then f k else 0) l.length := by
  rw [zwd (fun k => if k = i then f k else 0) hi (fun k _ hk => by rw [if_neg hk]), if_pos rfl]
 rw [e4, ← zl3]
 unfold subT
 refine zbu _ fun k _ => ?_
 by_cases hk : k = i
 ·
  subst hk
  rw [zb8 h hi]
  simp
 ·
  simp [hk]
end
def fn (a : List UInt64) (k : Nat) : Nat := (a.getD k 0).toNat
theorem yl2 (a : List UInt64) (k : Nat) : fn a k < 18446744073709551616 := (a.getD k 0).toNat_lt
theorem yl1 {a : List UInt64} {k : Nat} (h : k < a.length) : fn a k = a[k].toNat := by unfold fn; simp [h]
theorem yal {a b : List UInt64} (hl : a.length = b.length) (h : ∀ k, k < b.length → fn a k = fn b k) : a = b := by
 refine List.ext_getElem hl fun k h1 h2 => UInt64.toNat_inj.1 ?_
 have := h k h2
 rwa [yl1 h1, yl1 h2] at this
def zc9 (f : Nat → Nat) (n : Nat) : List UInt64 := (List.range n).map fun i => UInt64.ofNat (f i)
theorem zhn (f : Nat → Nat) (n : Nat) : (zc9 f n).length = n := by simp [zc9]
theorem zyn (f : Nat → Nat) (n : Nat) : zc9 f (n + 1) = zc9 f n ++ [UInt64.ofNat (f n)] := by simp [zc9, List.range_succ]
theorem z0r {f : Nat → Nat} {n k : Nat} (hk : k < n) (hf : f k < 18446744073709551616) : fn (zc9 f n) k = f k := by
 unfold fn zc9
 rw [List.getD_eq_getElem?_getD, List.getElem?_map, List.getElem?_range hk]
 simp only [Option.map_some, Option.getD_some, UInt64.toNat_ofNat']
 omega
end Go.Proofs.YtkalofboioffiaaGreat
