import Derived.Test.YtkalofboioffiaaGreatQ04
namespace Go.Proofs.YtkalofboioffiaaGreat
open Go.RowKit
set_option maxRecDepth 200000
set_option maxHeartbeats 64000000
structure Nd where
 root : Rt
 parent : Int
 slot : UInt64
 just : UInt64
theorem Nd.ext {x y : Nd} (h0 : x.root = y.root) (h1 : x.parent = y.parent) (h2 : x.slot = y.slot) (h3 : x.just = y.just) : x = y := by cases x; cases y; simp_all
instance : DecidableEq Nd := fun x y => decidable_of_iff (x.root = y.root ∧ x.parent = y.parent ∧ x.slot = y.slot ∧ x.just = y.just) ⟨fun h => Nd.ext h.1 h.2.1 h.2.2.1 h.2.2.2, fun h => by subst h; exact ⟨rfl, rfl, rfl, rfl⟩⟩
def nd (l : List Nd) (i : Nat) : Nd := l.getD i ⟨zr, 0, 0, 0⟩
theorem zqn (l : List Nd) {i : Nat} (h : i < l.length) : nd l i = l[i] := by simp [nd, h]
def sl (l : List Nd) (i : Nat) : Nat := (nd l i).slot.toNat
def up (l : List Nd) (i : Nat) : Nat := (nd l i).parent.toNat
def z2q (l : List Nd) (i : Nat) : Prop :=
 sl l i ≤ 1099511627776 ∧ (i = 0 → (nd l i).parent = -1) ∧ (0 < i → 0 ≤ (nd l i).parent ∧ (nd l i).parent < i ∧ sl l (up l i) < sl l i) ∧ ∀ k, k < i → (nd l k).root ≠ (nd l i).root
instance (l : List Nd) (i : Nat) : Decidable (z2q l i) := by unfold z2q; exact inferInstance
def MayT (l : List Nd) : Prop := 1 ≤ l.length ∧ l.length ≤ 12 ∧ ∀ i, i < l.length → z2q l i
instance (l : List Nd) : Decidable (MayT l) := by unfold MayT; exact inferInstance
section
variable {l : List Nd}
theorem MayT.pos (h : MayT l) : 0 < l.length := h.1
theorem MayT.le (h : MayT l) : l.length ≤ 12 := h.2.1
theorem MayT.first (h : MayT l) : (nd l 0).parent = -1 := (h.2.2 0 h.pos).2.1 rfl
theorem MayT.par (h : MayT l) {k : Nat} (h0 : 0 < k) (hk : k < l.length) : (nd l k).parent = (up l k : Int) ∧ up l k < k ∧ sl l (up l k) < sl l k := by
 obtain ⟨a, b, c⟩ := (h.2.2 k hk).2.2.1 h0
 unfold up at *
 exact ⟨by omega, by omega, c⟩
theorem MayT.slot (h : MayT l) {k : Nat} (hk : k < l.length) : sl l k ≤ 1099511627776 := (h.2.2 k hk).1
theorem MayT.roots (h : MayT l) {i k : Nat} (hi : i < l.length) (hk : k < l.length) (e : (nd l i).root = (nd l k).root) : i = k := by
 rcases Nat.lt_trichotomy i k with h1 | h1 | h1
 ·
  exact absurd e ((h.2.2 k hk).2.2.2 i h1)
 ·
  exact h1
 ·
  exact absurd e.symm ((h.2.2 i hi).2.2.2 k h1)
def abv (l : List Nd) : Nat → Nat → Nat → Bool
 | 0, i, k => decide (k = i)
 | f + 1, i, k => if i < k then abv l f i (up l k) else decide (k = i)
def zao (l : List Nd) (i k : Nat) : Bool := abv l k i k
theorem yel (h : MayT l) (i : Nat) : ∀ (k : Nat), k < l.length → ∀ f, k ≤ f → abv l f i k = abv l k i k := by
 intro k
 induction k using Nat.strongRecOn with
 | _ k ih =>
  intro hk f hf
  by_cases h0 : k = 0
  ·
   subst h0
   cases f with
   | zero => rfl
   | succ f => simp [abv]
  ·
   obtain ⟨_, hu, _⟩ := h.par (Nat.pos_of_ne_zero h0) hk
   obtain ⟨f', rfl⟩ : ∃ f', f = f' + 1 := ⟨f - 1, by omega⟩
   obtain ⟨k', hk'⟩ : ∃ k', k = k' + 1 := ⟨k - 1, by omega⟩
   have e1 := ih (up l k) hu (by omega) f' (by omega)
   have e2 := ih (up l k) hu (by omega) k' (by omega)
   rw [show abv l k i k = abv l (k' + 1) i k by rw [← hk']]
   simp only [abv]
   rw [e1, e2]
theorem zb1 (i : Nat) : zao l i 0 = decide (i = 0) := by
 unfold zao abv
 rw [Bool.eq_iff_iff, decide_eq_true_iff, decide_eq_true_iff]
 exact ⟨fun h => h.symm, fun h => h.symm⟩
theorem zod (h : MayT l) (i : Nat) {k : Nat} (h0 : 0 < k) (hk : k < l.length) : zao l i k = if i < k then zao l i (up l k) else decide (k = i) := by
 obtain ⟨_, hu, _⟩ := h.par h0 hk
 obtain ⟨k', rfl⟩ : ∃ k', k = k' + 1 := ⟨k - 1, by omega⟩
 unfold zao
 rw [show abv l (k' + 1) i (k' + 1) = if i < k' + 1 then abv l k' i (up l (k' + 1)) else decide (k' + 1 = i) from rfl]
 rw [yel h i (up l (k' + 1)) (by omega) k' (by omega)]
theorem ze7 (h : MayT l) (i : Nat) : ∀ k, k < l.length → zao l i k = true → i ≤ k := by
 intro k
 induction k using Nat.strongRecOn with
 | _ k ih =>
  intro hk ha
  by_cases h0 : k = 0
  ·
   subst h0; rw [zb1, decide_eq_true_iff] at ha; omega
  ·
   obtain ⟨_, hu, _⟩ := h.par (Nat.pos_of_ne_zero h0) hk
   rw [zod h i (Nat.pos_of_ne_zero h0) hk] at ha
   split at ha
   ·
    have := ih _ hu (by omega) ha; omega
   ·
    rw [decide_eq_true_iff] at ha; omega
theorem zbq (h : MayT l) (i : Nat) {k : Nat} (h0 : 0 < k) (hk : k < l.length) : zao l i k = true ↔ i = k ∨ zao l i (up l k) = true := by
 obtain ⟨_, hu, _⟩ := h.par h0 hk
 rw [zod h i h0 hk]
 constructor
 ·
  intro ha
  split at ha
  ·
   exact .inr ha
  ·
   rw [decide_eq_true_iff] at ha; exact .inl ha.symm
 ·
  rintro (rfl | ha)
  ·
   rw [if_neg (by omega), decide_eq_true_iff]
  ·
   have := ze7 h i _ (by omega) ha
   rw [if_pos (by omega)]; exact ha
theorem zb8 (h : MayT l) {k : Nat} (hk : k < l.length) : zao l k k = true := by
 by_cases h0 : k = 0
 ·
  subst h0; rw [zb1]; rfl
 ·
  rw [zbq h k (Nat.pos_of_ne_zero h0) hk]; exact .inl rfl
theorem zo4 (h : MayT l) : ∀ k, k < l.length → zao l 0 k = true := by
 intro k
 induction k using Nat.strongRecOn with
 | _ k ih =>
  intro hk
  by_cases h0 : k = 0
  ·
   subst h0; rw [zb1]; rfl
  ·
   obtain ⟨_, hu, _⟩ := h.par (Nat.pos_of_ne_zero h0) hk
   rw [zbq h 0 (Nat.pos_of_ne_zero h0) hk]
   exact .inr (ih _ hu (by omega))
theorem zcr (h : MayT l) {a b : Nat} (hab : zao l a b = true) : ∀ c, c < l.length → zao l b c = true → zao l a c = true := by
 intro c
 induction c using Nat.strongRecOn with
 | _ c ih =>
  intro hc hbc
  by_cases h0 : c = 0
  ·
   subst h0
   rw [zb1, decide_eq_true_iff] at hbc
   subst hbc; exact hab
  ·
   obtain ⟨_, hu, _⟩ := h.par (Nat.pos_of_ne_zero h0) hc
   rcases (zbq h b (Nat.pos_of_ne_zero h0) hc).1 hbc with rfl | hb
   ·
    exact hab
   ·
    exact (zbq h a (Nat.pos_of_ne_zero h0) hc).2 (.inr (ih _ hu (by omega) hb))
theorem zz1 (h : MayT l) {a c : Nat} : ∀ b, b < l.length → zao l a b = true → zao l c b = true → zao l a c = true ∨ zao l c a = true := by
 intro b
 induction b using Nat.strongRecOn with
 | _ b ih =>
  intro hb ha hc
  by_cases h0 : b = 0
  ·
   subst h0
   rw [zb1, decide_eq_true_iff] at ha hc
   subst ha hc
   exact .inl (by rw [zb1]; rfl)
  ·
   obtain ⟨_, hu, _⟩ := h.par (Nat.pos_of_ne_zero h0) hb
   rcases (zbq h a (Nat.pos_of_ne_zero h0) hb).1 ha with rfl | ha'
   ·
    exact .inr hc
   ·
    rcases (zbq h c (Nat.pos_of_ne_zero h0) hb).1 hc with rfl | hc'
    ·
     exact .inl ha
    ·
     exact ih _ hu (by omega) ha' hc'
theorem zsg (h : MayT l) {a : Nat} : ∀ b, b < l.length → zao l a b = true → sl l a ≤ sl l b := by
 intro b
 induction b using Nat.strongRecOn with
 | _ b ih =>
  intro hb ha
  by_cases h0 : b = 0
  ·
   subst h0
   rw [zb1, decide_eq_true_iff] at ha
   subst ha; exact Nat.le_refl _
  ·
   obtain ⟨_, hu, hs⟩ := h.par (Nat.pos_of_ne_zero h0) hb
   rcases (zbq h a (Nat.pos_of_ne_zero h0) hb).1 ha with rfl | ha'
   ·
    exact Nat.le_refl _
   ·
    have := ih _ hu (by omega) ha'; omega
def atF (l : List Nd) (s : Nat) : Nat → Nat → Int
 | 0, i => if sl l i ≤ s then i else -1
 | f + 1, i => if sl l i ≤ s then i else if i = 0 then -1 else atF l s f (up l i)
def atT (l : List Nd) (i s : Nat) : Int := atF l s i i
theorem yep (h : MayT l) (s : Nat) : ∀ (k : Nat), k < l.length → ∀ f, k ≤ f → atF l s f k = atF l s k k := by
 intro k
 induction k using Nat.strongRecOn with
 | _ k ih =>
  intro hk f hf
  by_cases h0 : k = 0
  ·
   subst h0
   cases f with
   | zero => rfl
   | succ f => simp [atF]
  ·
   obtain ⟨_, hu, _⟩ := h.par (Nat.pos_of_ne_zero h0) hk
   obtain ⟨f', rfl⟩ : ∃ f', f = f' + 1 := ⟨f - 1, by omega⟩
   obtain ⟨k', hk'⟩ : ∃ k', k = k' + 1 := ⟨k - 1, by omega⟩
   have e1 := ih (up l k) hu (by omega) f' (by omega)
   have e2 := ih (up l k) hu (by omega) k' (by omega)
   rw [show atF l s k k = atF l s (k' + 1) k by rw [← hk']]
   simp only [atF]
   rw [e1, e2]
theorem zwy (h : MayT l) (s : Nat) {k : Nat} (h0 : 0 < k) (hk : k < l.length) : atT l k s = if sl l k ≤ s then (k : Int) else atT l (up l k) s := by
 obtain ⟨_, hu, _⟩ := h.par h0 hk
 obtain ⟨k', rfl⟩ : ∃ k', k = k' + 1 := ⟨k - 1, by omega⟩
 unfold atT
 rw [show atF l s (k' + 1) (k' + 1) = if sl l (k' + 1) ≤ s then ((k' + 1 : Nat) : Int) else if k' + 1 = 0 then -1 else atF l s k' (up l (k' + 1)) from rfl]
 rw [if_neg (show ¬ k' + 1 = 0 by omega), yep h s (up l (k' + 1)) (by omega) k' (by omega)]
theorem zmi (s : Nat) : atT l 0 s = if sl l 0 ≤ s then (0 : Int) else -1 := rfl
theorem zt5 (h : MayT l) (s : Nat) : ∀ i, i < l.length → (atT l i s = -1 ∧ ∀ k, zao l k i = true → s < sl l k) ∨ ∃ n : Nat, atT l i s = n ∧ n < l.length ∧ zao l n i = true ∧ sl l n ≤ s ∧ ∀ k, zao l k i = true → sl l k ≤ s → zao l k n = true := by
 intro i
 induction i using Nat.strongRecOn with
 | _ i ih =>
  intro hi
  by_cases hs : sl l i ≤ s
  ·
   refine .inr ⟨i, ?_, hi, zb8 h hi, hs, fun k hk _ => hk⟩
   by_cases h0 : i = 0
   ·
    subst h0; rw [zmi, if_pos hs]; rfl
   ·
    rw [zwy h s (Nat.pos_of_ne_zero h0) hi, if_pos hs]
  ·
   by_cases h0 : i = 0
   ·
    subst h0
    refine .inl ⟨by rw [zmi, if_neg hs], fun k hk => ?_⟩
    rw [zb1, decide_eq_true_iff] at hk
    subst hk; omega
   ·
    obtain ⟨_, hu, _⟩ := h.par (Nat.pos_of_ne_zero h0) hi
    rw [zwy h s (Nat.pos_of_ne_zero h0) hi, if_neg hs]
    rcases ih _ hu (by omega) with ⟨e, hn⟩ | ⟨n, e, hn, ha, hsn, hall⟩
    ·
     refine .inl ⟨e, fun k hk => ?_⟩
     rcases (zbq h k (Nat.pos_of_ne_zero h0) hi).1 hk with rfl | hk'
     ·
      omega
     ·
      exact hn k hk'
    ·
     refine .inr ⟨n, e, hn, (zbq h n (Nat.pos_of_ne_zero h0) hi).2 (.inr ha), hsn, fun k hk hks => ?_⟩
     rcases (zbq h k (Nat.pos_of_ne_zero h0) hi).1 hk with rfl | hk'
     ·
      omega
     ·
      exact hall k hk' hks
end
section
open Go.RowKit
def neL (x : Nd) : List Value := (rc x.root).toList ++ ([.int .i64 x.parent] ++ ([num x.slot] ++ ([num x.just])))
def ne (x : Nd) : Array Value := (neL x).toArray
theorem zm2 (x : Nd) : (ne x).toList = neL x := rfl
theorem yjw (x : Nd) : (neL x).length = 35 := by simp [neL, zav]
theorem zm3 (x : Nd) : (ne x).size = 35 := by rw [← Array.length_toList, zm2, yjw]
theorem yjx (x : Nd) : ∀ v ∈ neL x, v.oneCell' = true := by
 intro v hv
 unfold neL at hv
 simp only [List.mem_append, List.mem_singleton] at hv
 rcases hv with hv | rfl | rfl | rfl
 ·
  exact zis _ v hv
 ·
  rfl
 ·
  rfl
 ·
  rfl
@[go_sem] theorem ytz (x : Nd) : okA 35 (.agg (ne x)) = true := by
 show ((ne x).size == 35 && (ne x).all (·.oneCell')) = true
 rw [show (ne x).all (·.oneCell') = true from zea (yjx x), zm3]; rfl
def zne : Nd := ⟨zr, 0, 0, 0⟩
theorem z2l (w : World) : (zeroValue 63).run Tryz.prog w = .ok (.agg (ne zne)) w := by kernel_rfl
@[go_sem ↓] theorem ys9 (ρ : Operand → Value) (dst : Option Tmp) (x : Operand) (ty : TypeId) (pos : String) (after : Array Edge) (guard : Option (Nat × Bool)) (w : World) :
  (execOp ρ { dst, op := .load 63 x, type := ty, pos, after, guard }).run Tryz.prog w = zkh (ldA w (ρ x) 35) w (zbn Tryz.prog ρ { dst, op := .load 63 x, type := ty, pos, after, guard } w) :=
 zb2 Tryz.isAgg63 Tryz.sizeOf63 ρ dst x ty pos after guard w
@[go_sem ↓] theorem ysc (ρ : Operand → Value) (dst : Option Tmp) (x y : Operand) (ty : TypeId) (pos : String) (after : Array Edge) (guard : Option (Nat × Bool)) (w : World) :
  (execOp ρ { dst, op := .store 63 x y, type := ty, pos, after, guard }).run Tryz.prog w = zjo (wrA w (ρ x) 35 && okA 35 (ρ y)) (stA w (ρ x) (ρ y)) (zbn Tryz.prog ρ { dst, op := .store 63 x y, type := ty, pos, after, guard } w) :=
 zbm Tryz.sizeOf63 ρ dst x y ty pos after guard w
@[go_sem ↓] theorem yrn (ρ : Operand → Value) (dst : Option Tmp) (ty : TypeId) (pos : String) (after : Array Edge) (guard : Option (Nat × Bool)) (w : World) :
  (execOp ρ { dst, op := .alloc 63, type := ty, pos, after, guard }).run Tryz.prog w = .ok (.value (.pointer (some ⟨w.heap.size, 0, none⟩))) (w.alloc (.cells (ne zne) 63)) := by
 unfold execOp
 simp only [Instr.alloc, Sem.run_bind, z2l, Result.andThen_ok]
 rfl
def places_ne : List (Nat × Nat) := [(0, 32), (32, 1), (33, 1), (34, 1)]
theorem yae : ∀ w : World, ((Tryz.prog.fieldsOf 63).mapM (m := Sem) fun f => do pure (f.offset, ← Go.sizeOf f.type)).run Tryz.prog w = .ok places_ne.toArray w := fun _ => by kernel_rfl
theorem zhr : Tryz.prog.underlying 63 = some (.struct (Tryz.prog.fieldsOf 63)) := by kernel_rfl
theorem zpw : (Tryz.prog.fieldsOf 63).toList.map (fun f => (f.name, f.type, f.offset)) = [("Root", 34, 0), ("Parent", 3, 32), ("Slot", 27, 33), ("Just", 27, 34)] := by kernel_rfl
@[go_sem ↓] theorem yry (ρ : Operand → Value) (dst : Option Tmp) (p : Nat × Operand) (ps : List (Nat × Operand)) (ty : TypeId) (pos : String) (after : Array Edge) (guard : Option (Nat × Bool)) (w : World) :
  (execOp ρ { dst, op := .build 63 (p :: ps).toArray, type := ty, pos, after, guard }).run Tryz.prog w = zg7 ((zh2 places_ne (ne zne) ((p.1, ρ p.2) :: ps.map fun p => (p.1, ρ p.2))).map .agg) w (zbn Tryz.prog ρ { dst, op := .build 63 (p :: ps).toArray, type := ty, pos, after, guard } w) :=
 zcg z2l zhr yae ρ dst (p :: ps).toArray ty pos after guard w
attribute [go_sem] places_ne zm3
theorem zfj (x : Nd) : neL x = ([]) ++ ((rc x.root).toList ++ ([.int .i64 x.parent] ++ ([num x.slot] ++ ([num x.just])))) ∧ ([] : List Value).length = 0 := by
 constructor
 ·
  unfold neL; simp
 ·
  rfl
theorem zqq (x : Nd) : (ne x).extract 0 (0 + 32) = rc x.root := zdt (zfj x).1 (zfj x).2 (zav _)
theorem zth {w : World} {b off : Nat} {x : Nd} (h : w.rangeAt b off (neL x)) : ldA w (.pointer (some ⟨b, off + 0, none⟩)) 32 = some (rc x.root) := zca h (zfj x).1 (zfj x).2 (zav _)
theorem zkl {w : World} {g : Nat} {t : TypeId} {fr : Nat × Nat} {x : Nd} (h : w.heap[g]? = some (.cells (ne x) t fr)) : ldA w (.pointer (some ⟨g, 0, none⟩)) 32 = some (rc x.root) := by have := zth (x := x) (zai h); rwa [Nat.zero_add] at this
@[go_sem] theorem ym2 (w : World) (t : TypeId) (b : Nat) (x : Nd) (hb : b = w.heap.size) : ldA (w.alloc (.cells (ne x) t)) (.pointer (some ⟨b, 0, none⟩)) 32 = some (rc x.root) := by subst hb; exact zkl (heap_alloc_last w _)
theorem z08 (x : Nd) (y : Rt) : za2 (ne x) 0 (rc y) = ne { x with root := y } := by
 rw [za3 (c := ne x) (zfj x).1 (zfj x).2 (by simp [zav])]
 simp [ne, neL]
theorem zdv (x : Nd) : neL x = ((rc x.root).toList) ++ ([.int .i64 x.parent] ++ ([num x.slot] ++ ([num x.just]))) ∧ ((rc x.root).toList : List Value).length = 32 := by
 constructor
 ·
  unfold neL; simp
 ·
  simp [zav]
theorem zfb (x : Nd) : (ne x)[32]? = some (.int .i64 x.parent) := zij (zdv x).1 (zdv x).2
@[go_sem] theorem yjv (x : Nd) (h : 32 < (ne x).size) : (ne x)[32]'h = .int .i64 x.parent := by have := zfb x; rw [Array.getElem?_eq_getElem h] at this; exact Option.some.inj this
theorem znu {w : World} {b off : Nat} {x : Nd} (h : w.rangeAt b off (neL x)) : w.cell? ⟨b, off + 32, none⟩ = some (.int .i64 x.parent) := zbj h (zdv x).1 (zdv x).2
theorem zvk {w : World} {g : Nat} {t : TypeId} {fr : Nat × Nat} {x : Nd} (h : w.heap[g]? = some (.cells (ne x) t fr)) : w.cell? ⟨g, 32, none⟩ = some (.int .i64 x.parent) := by have := znu (x := x) (zai h); rwa [Nat.zero_add] at this
theorem zlp (x : Nd) (y : Int) : za2 (ne x) 32 #[.int .i64 y] = ne { x with parent := y } := by
 rw [za3 (c := ne x) (r := #[.int .i64 y]) (zdv x).1 (zdv x).2 rfl]
 simp [ne, neL]
theorem zfk (x : Nd) : neL x = ((rc x.root).toList ++ [.int .i64 x.parent]) ++ ([num x.slot] ++ ([num x.just])) ∧ ((rc x.root).toList ++ [.int .i64 x.parent] : List Value).length = 33 := by
 constructor
 ·
  unfold neL; simp
 ·
  simp [zav]
theorem zqr (x : Nd) : (ne x)[33]? = some (num x.slot) := zij (zfk x).1 (zfk x).2
theorem zti {w : World} {b off : Nat} {x : Nd} (h : w.rangeAt b off (neL x)) : w.cell? ⟨b, off + 33, none⟩ = some (num x.slot) := zbj h (zfk x).1 (zfk x).2
theorem z09 {w : World} {g : Nat} {t : TypeId} {fr : Nat × Nat} {x : Nd} (h : w.heap[g]? = some (.cells (ne x) t fr)) : w.cell? ⟨g, 33, none⟩ = some (num x.slot) := by have := zti (x := x) (zai h); rwa [Nat.zero_add] at this
theorem zqt (x : Nd) (y : UInt64) : za2 (ne x) 33 #[num y] = ne { x with slot := y } := by
 rw [za3 (c := ne x) (r := #[num y]) (zfk x).1 (zfk x).2 rfl]
 simp [ne, neL]
theorem zfi (x : Nd) : neL x = ((rc x.root).toList ++ [.int .i64 x.parent] ++ [num x.slot]) ++ ([num x.just] ++ ([])) ∧ ((rc x.root).toList ++ [.int .i64 x.parent] ++ [num x.slot] : List Value).length = 34 := by
 constructor
 ·
  unfold neL; simp
 ·
  simp [zav]
theorem zqp (x : Nd) : (ne x)[34]? = some (num x.just) := zij (zfi x).1 (zfi x).2
theorem ztg {w : World} {b off : Nat} {x : Nd} (h : w.rangeAt b off (neL x)) : w.cell? ⟨b, off + 34, none⟩ = some (num x.just) := zbj h (zfi x).1 (zfi x).2
theorem zqu {w : World} {g : Nat} {t : TypeId} {fr : Nat × Nat} {x : Nd} (h : w.heap[g]? = some (.cells (ne x) t fr)) : w.cell? ⟨g, 34, none⟩ = some (num x.just) := by have := ztg (x := x) (zai h); rwa [Nat.zero_add] at this
theorem zqs (x : Nd) (y : UInt64) : za2 (ne x) 34 #[num y] = ne { x with just := y } := by
 rw [za3 (c := ne x) (r := #[num y]) (zfi x).1 (zfi x).2 rfl]
 simp [ne, neL]
@[go_sem] theorem zvl (x : Nd) (y : Int) : (ne x).setIfInBounds 32 (.int .i64 y) = ne { x with parent := y } := by
 rw [zbg (by rw [zm3]; decide)]; exact zlp x y
attribute [go_sem] z08 zlp zqt zqs
@[go_sem] theorem yjz (x : Nd) (y : UInt64) : za2 (ne x) 33 #[.int .u64 (y.toNat : Int)] = ne { x with slot := y } := zqt x y
@[go_sem] theorem yjy (x : Nd) (y : UInt64) : za2 (ne x) 34 #[.int .u64 (y.toNat : Int)] = ne { x with just := y } := zqs x y
theorem ypv (d : Nat) (x y : Nd) (w : World) : (Op.equalIn (d + 3) 63 (.agg (ne x)) (.agg (ne y))).run Tryz.prog w = .ok (decide (x = y)) w := by
 rw [show d + 3 = (d + 2) + 1 from rfl, run_equalIn_struct w (d + 2) _ _ _ zhr (by kernel_rfl)]
 rw [zde zpw (by decide) (zvu _ _ _ (zqq x) w) (zvu _ _ _ (zqq y) w) (yf6 (d + 0) _ _ w)
  (fun _ h1 => zde h1 (by decide) (yne _ _ _ (zfb x) w) (yne _ _ _ (zfb y) w) (ysu (d + 1) _ _ w)
  (fun _ h2 => zde h2 (by decide) (zyq _ _ _ (zqr x) w) (zyq _ _ _ (zqr y) w) (yf5 (d + 1) _ _ w)
  (fun _ h3 => zde h3 (by decide) (zyq _ _ _ (zqp x) w) (zyq _ _ _ (zqp y) w) (yf5 (d + 1) _ _ w)
  (fun _ hn => zut hn))))]
 congr 1
 rw [Bool.eq_iff_iff]
 simp only [Bool.and_eq_true, decide_eq_true_iff, and_true]
 exact ⟨fun h => Nd.ext h.1 h.2.1 h.2.2.1 h.2.2.2, fun h => by subst h; exact ⟨rfl, rfl, rfl, rfl⟩⟩
@[go_sem ↓] theorem yua (x y : Nd) (w : World) : (Op.equalIn 10000 63 (.agg (ne x)) (.agg (ne y))).run Tryz.prog w = .ok (decide (x = y)) w := ypv 9997 x y w
theorem zsv : Tryz.prog.cellsOf 63 = 35 := by kernel_rfl
section
open Go.WideShapes Go.ChangeShapes
variable {H : Type} {enc : TypeId × Value → H} {w : World} {base : Nat} {sp : Nat → Bool} {held : Bool}
theorem yfe {fuel : Nat} {cs : List Value} {x : DataW H × List MemPlace} (hl : cs.length = 35) (h : DataW.trod enc Tryz.prog w base sp held fuel 63 cs = some x) : ∃ a : Nd, cs = neL a := by
 obtain ⟨_, _, h0⟩ := zas (i := 0) zhr zpw rfl h
 rw [zcp] at h0
 obtain ⟨a0, e0⟩ := zc6 h0
 obtain ⟨_, _, h1⟩ := zas (i := 1) zhr zpw rfl h
 rw [zhb] at h1
 obtain ⟨a1, e1⟩ := zkv h1
 obtain ⟨_, _, h2⟩ := zas (i := 2) zhr zpw rfl h
 rw [zce] at h2
 obtain ⟨a2, e2⟩ := zc3 h2
 obtain ⟨_, _, h3⟩ := zas (i := 3) zhr zpw rfl h
 rw [zce] at h3
 obtain ⟨a3, e3⟩ := zc3 h3
 refine ⟨⟨a0, a1, a2, a3⟩, ?_⟩
 unfold neL
 have j0 := za6 cs 0 32
 rw [e0] at j0
 have j1 := za6 cs 32 1
 rw [e1] at j1
 have j2 := za6 cs 33 1
 rw [e2] at j2
 have j3 := za6 cs 34 1
 rw [e3] at j3
 have jl : cs.drop 35 = [] := List.drop_of_length_le (by omega)
 rw [show (34 + 1) = 35 from rfl, jl, List.append_nil] at j3
 rw [← List.drop_zero (l := cs)]
 rw [← j0]
 rw [show cs.drop (0 + 32) = cs.drop 32 from rfl, ← j1]
 rw [show cs.drop (32 + 1) = cs.drop 33 from rfl, ← j2]
 rw [show cs.drop (33 + 1) = cs.drop 34 from rfl, ← j3]
 try rfl
end
def Ene : Lie Nd := ⟨63, 35, neL, by decide, yjw, yjx⟩
attribute [irreducible] ne
end
section
open Go.RowKit
theorem ymb : (Tryz.prog.info? 63).map (fun i => (i.zero, i.size, i.bytes)) = some (some (.agg (ne zne)), 35, 56) := by kernel_rfl
@[go_sem ↓] theorem ye0 (ρ : Operand → Value) (dst : Option Tmp) (x : Operand) (ty : TypeId) (pos : String) (after : Array Edge) (guard : Option (Nat × Bool)) (w : World) (hx : okA 35 (ρ x) = true) :
  (execOp ρ { dst, op := .buildSlice 22 1 #[(0, x)], type := ty, pos, after, guard }).run Tryz.prog w = .ok (.value (.slice (some ⟨w.heap.size, 0, none⟩) 1 1)) (w.alloc (.cells (zf8 (ρ x)) 63)) := by
 obtain ⟨c, hc, hn⟩ : ∃ c, ρ x = .agg c ∧ c.size = 35 := by
  unfold okA at hx
  split at hx
  ·
   rename_i c hc
   rw [Bool.and_eq_true, beq_iff_eq] at hx
   exact ⟨c, hc, hx.1⟩
  ·
   cases hx
 have hp : (1 * 35 > 2 ^ 24) = False := by simp
 have h0 : (1 * 35 = 0) = False := by simp
 unfold execOp
 simp only [Instr.buildSlice, Sem.run_bind, run_underlying Tryz.underlying22, Result.andThen_ok, Tryz.sizeOf63, hp, h0, if_false, z2l, Value.cells]
 simp only [List.map_toArray, List.map_cons, List.map_nil, hc, Instr.fill, Value.cells, hn, Nat.zero_mul]
 simp [zf8]
 rw [zii _ c (by simp [hn])]
 rfl
section
open Go.WideShapes Go.ChangeShapes
variable {H : Type} {enc : TypeId × Value → H} {w : World} {base : Nat} {sp : Nat → Bool} {held : Bool}
theorem ye7 {fuel : Nat} {v : Value} {x : DataW H × List MemPlace} (h : DataW.trod enc Tryz.prog w base sp held fuel 22 [v] = some x) : ∃ l : List Nd, SlE Ene w v l :=
 zj5 Tryz.underlying22 zsv (fun _ cs _ h => yfe (by obtain ⟨_, _, _, _, hl, _⟩ := DataW.trod_struct zhr h; rw [hl, zsv]) h) h
theorem z9d {fuel : Nat} {cs : List Value} {x : DataW H × List MemPlace} (h : DataW.trod enc Tryz.prog w base sp held fuel 22 cs = some x) : ∃ s : SlV, cs = [sv s] ∧ ∃ l : List Nd, SlE Ene w (sv s) l := by
 rcases Deep.open_slice Tryz.underlying22 h with ⟨h1, _⟩ | ⟨a', len', cap', _, _, _, _, h1, _⟩
 ·
  subst h1
  exact ⟨⟨none, 0, 0⟩, rfl, [], zbr _ _ _ _⟩
 ·
  subst h1
  exact ⟨⟨some a', len', cap'⟩, rfl, ye7 h⟩
end
end
section
open Go.RowKit
structure Tr where
 n : SlV
def trL (x : Tr) : List Value := [sv x.n]
def tr (x : Tr) : Array Value := (trL x).toArray
theorem zgq (x : Tr) : (tr x).toList = trL x := rfl
theorem yqx (x : Tr) : (trL x).length = 1 := by simp [trL]
theorem za9 (x : Tr) : (tr x).size = 1 := by rw [← Array.length_toList, zgq, yqx]
theorem z4r (x : Tr) : ∀ v ∈ trL x, v.oneCell' = true := by
 intro v hv
 unfold trL at hv
 simp only [List.mem_singleton] at hv
 rcases hv with rfl
 ·
  rfl
@[go_sem] theorem yt5 (x : Tr) : okA 1 (.agg (tr x)) = true := by
 show ((tr x).size == 1 && (tr x).all (·.oneCell')) = true
 rw [show (tr x).all (·.oneCell') = true from zea (z4r x), za9]; rfl
def ztr : Tr := ⟨⟨none, 0, 0⟩⟩
theorem z2n (w : World) : (zeroValue 24).run Tryz.prog w = .ok (.agg (tr ztr)) w := by kernel_rfl
@[go_sem ↓] theorem ytc (ρ : Operand → Value) (dst : Option Tmp) (x : Operand) (ty : TypeId) (pos : String) (after : Array Edge) (guard : Option (Nat × Bool)) (w : World) :
  (execOp ρ { dst, op := .load 24 x, type := ty, pos, after, guard }).run Tryz.prog w = zkh (ldA w (ρ x) 1) w (zbn Tryz.prog ρ { dst, op := .load 24 x, type := ty, pos, after, guard } w) :=
 zb2 Tryz.isAgg24 Tryz.sizeOf24 ρ dst x ty pos after guard w
@[go_sem ↓] theorem ysh (ρ : Operand → Value) (dst : Option Tmp) (x y : Operand) (ty : TypeId) (pos : String) (after : Array Edge) (guard : Option (Nat × Bool)) (w : World) :
  (execOp ρ { dst, op := .store 24 x y, type := ty, pos, after, guard }).run Tryz.prog w = zjo (wrA w (ρ x) 1 && okA 1 (ρ y)) (stA w (ρ x) (ρ y)) (zbn Tryz.prog ρ { dst, op := .store 24 x y, type := ty, pos, after, guard } w) :=
 zbm Tryz.sizeOf24 ρ dst x y ty pos after guard w
@[go_sem ↓] theorem yrs (ρ : Operand → Value) (dst : Option Tmp) (ty : TypeId) (pos : String) (after : Array Edge) (guard : Option (Nat × Bool)) (w : World) :
  (execOp ρ { dst, op := .alloc 24, type := ty, pos, after, guard }).run Tryz.prog w = .ok (.value (.pointer (some ⟨w.heap.size, 0, none⟩))) (w.alloc (.cells (tr ztr) 24)) := by
 unfold execOp
 simp only [Instr.alloc, Sem.run_bind, z2n, Result.andThen_ok]
 rfl
def places_tr : List (Nat × Nat) := [(0, 1)]
theorem zxj : ∀ w : World, ((Tryz.prog.fieldsOf 24).mapM (m := Sem) fun f => do pure (f.offset, ← Go.sizeOf f.type)).run Tryz.prog w = .ok places_tr.toArray w := fun _ => by kernel_rfl
theorem zwn : Tryz.prog.underlying 24 = some (.struct (Tryz.prog.fieldsOf 24)) := by kernel_rfl
theorem yly : (Tryz.prog.fieldsOf 24).toList.map (fun f => (f.name, f.type, f.offset)) = [("N", 22, 0)] := by kernel_rfl
@[go_sem ↓] theorem yr3 (ρ : Operand → Value) (dst : Option Tmp) (p : Nat × Operand) (ps : List (Nat × Operand)) (ty : TypeId) (pos : String) (after : Array Edge) (guard : Option (Nat × Bool)) (w : World) :
  (execOp ρ { dst, op := .build 24 (p :: ps).toArray, type := ty, pos, after, guard }).run Tryz.prog w = zg7 ((zh2 places_tr (tr ztr) ((p.1, ρ p.2) :: ps.map fun p => (p.1, ρ p.2))).map .agg) w (zbn Tryz.prog ρ { dst, op := .build 24 (p :: ps).toArray, type := ty, pos, after, guard } w) :=
 zcg z2n zwn zxj ρ dst (p :: ps).toArray ty pos after guard w
@[go_sem ↓] theorem ypc (ρ : Operand → Value) (dst : Option Tmp) (ty : TypeId) (pos : String) (after : Array Edge) (guard : Option (Nat × Bool)) (w : World) :
  (execOp ρ { dst, op := .build 24 #[], type := ty, pos, after, guard }).run Tryz.prog w = .ok (.value (.agg (tr ztr))) w :=
 zcg z2n zwn zxj ρ dst #[] ty pos after guard w
attribute [go_sem] places_tr za9
theorem zni (x : Tr) : trL x = ([]) ++ ([sv x.n] ++ ([])) ∧ ([] : List Value).length = 0 := by
 constructor
 ·
  unfold trL; simp
 ·
  rfl
theorem yil (x : Tr) : (tr x)[0]? = some (sv x.n) := zij (zni x).1 (zni x).2
@[go_sem] theorem ytm (x : Tr) (h : 0 < (tr x).size) : (tr x)[0]'h = sv x.n := by have := yil x; rw [Array.getElem?_eq_getElem h] at this; exact Option.some.inj this
theorem zwf {w : World} {b off : Nat} {x : Tr} (h : w.rangeAt b off (trL x)) : w.cell? ⟨b, off + 0, none⟩ = some (sv x.n) := zbj h (zni x).1 (zni x).2
theorem yim {w : World} {g : Nat} {t : TypeId} {fr : Nat × Nat} {x : Tr} (h : w.heap[g]? = some (.cells (tr x) t fr)) : w.cell? ⟨g, 0, none⟩ = some (sv x.n) := by have := zwf (x := x) (zai h); rwa [Nat.zero_add] at this
theorem zl7 (x : Tr) (y : SlV) : za2 (tr x) 0 #[sv y] = tr { x with n := y } := by
 rw [za3 (c := tr x) (r := #[sv y]) (zni x).1 (zni x).2 rfl]
 simp [tr, trL]
@[go_sem] theorem yin (x : Tr) (y : SlV) : (tr x).setIfInBounds 0 (sv y) = tr { x with n := y } := by
 rw [zbg (by rw [za9]; decide)]; exact zl7 x y
@[go_sem] theorem ydn (x : Tr) (p : Option Addr) (k c : Nat) : (tr x).setIfInBounds 0 (.slice p k c) = tr { x with n := ⟨p, k, c⟩ } := by
 rw [zbg (by rw [za9]; decide)]; exact zl7 x ⟨p, k, c⟩
attribute [go_sem] zl7
@[go_sem] theorem yqy (x : Tr) (p : Option Addr) (k c : Nat) : za2 (tr x) 0 #[.slice p k c] = tr { x with n := ⟨p, k, c⟩ } := zl7 x ⟨p, k, c⟩
theorem zsw : Tryz.prog.cellsOf 24 = 1 := by kernel_rfl
section
open Go.WideShapes Go.ChangeShapes
variable {H : Type} {enc : TypeId × Value → H} {w : World} {base : Nat} {sp : Nat → Bool} {held : Bool}
theorem z23 {fuel : Nat} {cs : List Value} {x : DataW H × List MemPlace} (hl : cs.length = 1) (h : DataW.trod enc Tryz.prog w base sp held fuel 24 cs = some x) : ∃ a : Tr, cs = trL a ∧ (∃ l, SlE Ene w (sv a.n) l) := by
 obtain ⟨_, _, h0⟩ := zas (i := 0) zwn yly rfl h
 rw [show Tryz.prog.cellsOf 22 = 1 from by kernel_rfl] at h0
 obtain ⟨a0, e0, k0⟩ := z9d h0
 refine ⟨⟨a0⟩, ?_, k0⟩
 unfold trL
 have j0 := za6 cs 0 1
 rw [e0] at j0
 have jl : cs.drop 1 = [] := List.drop_of_length_le (by omega)
 rw [show (0 + 1) = 1 from rfl, jl, List.append_nil] at j0
 rw [← List.drop_zero (l := cs)]
 rw [← j0]
 try rfl
end
attribute [irreducible] tr
end
end Go.Proofs.YtkalofboioffiaaGreat
