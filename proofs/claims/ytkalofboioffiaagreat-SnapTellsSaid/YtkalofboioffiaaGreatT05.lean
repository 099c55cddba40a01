import Derived.Test.YtkalofboioffiaaGreatT04
namespace Go.Proofs.YtkalofboioffiaaGreat
open Go.RowKit
set_option maxRecDepth 200000
set_option maxHeartbeats 64000000
section
open Go.RowKit
structure Nt where
 ver : Int
 head : Rt
 fin : Ck
theorem Nt.ext {x y : Nt} (h0 : x.ver = y.ver) (h1 : x.head = y.head) (h2 : x.fin = y.fin) : x = y := by cases x; cases y; simp_all
instance : DecidableEq Nt := fun x y => decidable_of_iff (x.ver = y.ver ∧ x.head = y.head ∧ x.fin = y.fin) ⟨fun h => Nt.ext h.1 h.2.1 h.2.2, fun h => by subst h; exact ⟨rfl, rfl, rfl⟩⟩
def ntL (x : Nt) : List Value := [.int .i64 x.ver] ++ ((rc x.head).toList ++ ((cc x.fin).toList))
def nt (x : Nt) : Array Value := (ntL x).toArray
theorem ygg (x : Nt) : (nt x).toList = ntL x := rfl
theorem yjd (x : Nt) : (ntL x).length = 66 := by simp [ntL, zay, zax]
theorem znv (x : Nt) : (nt x).size = 66 := by rw [← Array.length_toList, ygg, yjd]
theorem yje (x : Nt) : ∀ v ∈ ntL x, v.oneCell' = true := by
 intro v hv
 unfold ntL at hv
 simp only [List.mem_append, List.mem_singleton] at hv
 rcases hv with rfl | hv | hv
 ·
  rfl
 ·
  exact zg5 _ v hv
 ·
  exact zfk _ v (by rw [zbm] at hv; exact hv)
@[go_sem] theorem ymx (x : Nt) : okA 66 (.agg (nt x)) = true := by
 show ((nt x).size == 66 && (nt x).all (·.oneCell')) = true
 rw [show (nt x).all (·.oneCell') = true from zdo (yje x), znv]; rfl
def znt : Nt := ⟨0, zr, zcc⟩
theorem z82 (w : World) : (zeroValue 54).run Tryz.prog w = .ok (.agg (nt znt)) w := by kernel_rfl
@[go_sem ↓] theorem ylb (ρ : Operand → Value) (dst : Option Tmp) (x y : Operand) (ty : TypeId) (pos : String) (after : Array Edge) (guard : Option (Nat × Bool)) (w : World) :
  (execOp ρ { dst, op := .store 54 x y, type := ty, pos, after, guard }).run Tryz.prog w = zhv (wrA w (ρ x) 66 && okA 66 (ρ y)) (stA w (ρ x) (ρ y)) (zbf Tryz.prog ρ { dst, op := .store 54 x y, type := ty, pos, after, guard } w) :=
 zbe Tryz.sizeOf54 ρ dst x y ty pos after guard w
@[go_sem ↓] theorem ykl (ρ : Operand → Value) (dst : Option Tmp) (ty : TypeId) (pos : String) (after : Array Edge) (guard : Option (Nat × Bool)) (w : World) :
  (execOp ρ { dst, op := .alloc 54, type := ty, pos, after, guard }).run Tryz.prog w = .ok (.value (.pointer (some ⟨w.heap.size, 0, none⟩))) (w.alloc (.cells (nt znt) 54)) := by
 unfold execOp
 simp only [Instr.alloc, Sem.run_bind, z82, Result.andThen_ok]
 rfl
def places_nt : List (Nat × Nat) := [(0, 1), (1, 32), (33, 33)]
theorem z49 : ∀ w : World, ((Tryz.prog.fieldsOf 54).mapM (m := Sem) fun f => do pure (f.offset, ← Go.sizeOf f.type)).run Tryz.prog w = .ok places_nt.toArray w := fun _ => by kernel_rfl
theorem zz1 : Tryz.prog.underlying 54 = some (.struct (Tryz.prog.fieldsOf 54)) := by kernel_rfl
theorem yfd : (Tryz.prog.fieldsOf 54).toList.map (fun f => (f.name, f.type, f.offset)) = [("Ver", 3, 0), ("Head", 34, 1), ("Fin", 36, 33)] := by kernel_rfl
@[go_sem ↓] theorem ykw (ρ : Operand → Value) (dst : Option Tmp) (p : Nat × Operand) (ps : List (Nat × Operand)) (ty : TypeId) (pos : String) (after : Array Edge) (guard : Option (Nat × Bool)) (w : World) :
  (execOp ρ { dst, op := .build 54 (p :: ps).toArray, type := ty, pos, after, guard }).run Tryz.prog w = zgh ((zgp places_nt (nt znt) ((p.1, ρ p.2) :: ps.map fun p => (p.1, ρ p.2))).map .agg) w (zbf Tryz.prog ρ { dst, op := .build 54 (p :: ps).toArray, type := ty, pos, after, guard } w) :=
 zbv z82 zz1 z49 ρ dst (p :: ps).toArray ty pos after guard w
attribute [go_sem] places_nt znv
theorem zjf (x : Nt) : ntL x = ([]) ++ ([.int .i64 x.ver] ++ ((rc x.head).toList ++ ((cc x.fin).toList))) ∧ ([] : List Value).length = 0 := by
 constructor
 ·
  unfold ntL; simp
 ·
  rfl
theorem zki (x : Nt) : (nt x)[0]? = some (.int .i64 x.ver) := zgy (zjf x).1 (zjf x).2
theorem z1r (x : Nt) (y : Int) : zba (nt x) 0 #[.int .i64 y] = nt { x with ver := y } := by
 rw [za6 (c := nt x) (r := #[.int .i64 y]) (zjf x).1 (zjf x).2 rfl]
 simp [nt, ntL]
theorem zho (x : Nt) : ntL x = ([.int .i64 x.ver]) ++ ((rc x.head).toList ++ ((cc x.fin).toList)) ∧ ([.int .i64 x.ver] : List Value).length = 1 := by
 constructor
 ·
  unfold ntL; simp
 ·
  simp
theorem znu (x : Nt) : (nt x).extract 1 (1 + 32) = rc x.head := zck (zho x).1 (zho x).2 (zay _)
theorem zwq (x : Nt) (y : Rt) : zba (nt x) 1 (rc y) = nt { x with head := y } := by
 rw [za6 (c := nt x) (zho x).1 (zho x).2 (by simp [zay])]
 simp [nt, ntL]
theorem zje (x : Nt) : ntL x = ([.int .i64 x.ver] ++ (rc x.head).toList) ++ ((cc x.fin).toList ++ ([])) ∧ ([.int .i64 x.ver] ++ (rc x.head).toList : List Value).length = 33 := by
 constructor
 ·
  unfold ntL; simp
 ·
  simp [zay]
theorem zqb (x : Nt) : (nt x).extract 33 (33 + 33) = cc x.fin := zck (zje x).1 (zje x).2 (zax _)
theorem z1q (x : Nt) (y : Ck) : zba (nt x) 33 (cc y) = nt { x with fin := y } := by
 rw [za6 (c := nt x) (zje x).1 (zje x).2 (by simp [zax])]
 simp [nt, ntL]
attribute [go_sem] z1r zwq z1q
theorem yit (d : Nat) (x y : Nt) (w : World) : (Op.equalIn (d + 4) 54 (.agg (nt x)) (.agg (nt y))).run Tryz.prog w = .ok (decide (x = y)) w := by
 rw [show d + 4 = (d + 3) + 1 from rfl, run_equalIn_struct w (d + 3) _ _ _ zz1 (by kernel_rfl)]
 rw [zce yfd (by decide) (z66 _ _ _ (zki x) w) (z66 _ _ _ (zki y) w) (yiq (d + 2) _ _ w)
  (fun _ h1 => zce h1 (by decide) (zny _ _ _ (znu x) w) (zny _ _ _ (znu y) w) (z42 (d + 1) _ _ w)
  (fun _ h2 => zce h2 (by decide) (zrw _ _ _ (zqb x) w) (zrw _ _ _ (zqb y) w) (z43 (d + 0) _ _ w)
  (fun _ hn => zmx hn)))]
 congr 1
 rw [Bool.eq_iff_iff]
 simp only [Bool.and_eq_true, decide_eq_true_iff, and_true]
 exact ⟨fun h => Nt.ext h.1 h.2.1 h.2.2, fun h => by subst h; exact ⟨rfl, rfl, rfl⟩⟩
@[go_sem ↓] theorem ym8 (x y : Nt) (w : World) : (Op.equalIn 10000 54 (.agg (nt x)) (.agg (nt y))).run Tryz.prog w = .ok (decide (x = y)) w := yit 9996 x y w
section
open Go.WideShapes Go.ChangeShapes
variable {H : Type} {enc : TypeId × Value → H} {w : World} {base : Nat} {sp : Nat → Bool} {held : Bool}
end
attribute [irreducible] nt
end
section
variable {l : List Nd}
def posR (l : List Nd) (r : Rt) : Nat := l.findIdx fun n => decide (n.root = r)
def zaz (l : List Nd) (r : Rt) : Int := if MayT l ∧ posR l r < l.length then posR l r else -1
theorem ygm {r : Rt} (h : posR l r < l.length) : (nd l (posR l r)).root = r := by
 rw [zrj l h]
 have : (fun n : Nd => decide (n.root = r)) (l[posR l r]'h) = true := List.findIdx_getElem (w := h)
 simpa using this
theorem zw1 {r : Rt} {i : Nat} (hi : i < posR l r) (hl : i < l.length) : (nd l i).root ≠ r := by
 rw [zrj l hl]
 have := List.not_of_lt_findIdx hi
 simpa using this
theorem zcs (h : MayT l) (r : Rt) : (∃ i : Nat, i < l.length ∧ zaz l r = i ∧ (nd l i).root = r) ∨ (zaz l r = -1 ∧ ∀ i, i < l.length → (nd l i).root ≠ r) := by
 by_cases hp : posR l r < l.length
 ·
  exact .inl ⟨_, hp, by unfold zaz; rw [if_pos ⟨h, hp⟩], ygm hp⟩
 ·
  exact .inr ⟨by unfold zaz; rw [if_neg (fun e => hp e.2)], fun i hi => zw1 (by omega) hi⟩
theorem z5c (h : MayT l) {i : Nat} (hi : i < l.length) : zaz l (nd l i).root = i := by
 rcases zcs h (nd l i).root with ⟨k, hk, e, hr⟩ | ⟨_, hn⟩
 ·
  rw [e, h.roots hk hi hr]
 ·
  exact absurd rfl (hn i hi)
theorem zyp (h : ¬ MayT l) (r : Rt) : zaz l r = -1 := by unfold zaz; rw [if_neg (fun e => h e.1)]
theorem ye8 (r : Rt) : -1 ≤ zaz l r := by unfold zaz; split <;> omega
def znc (l : List Nd) (i : Nat) : List Nat := (List.range l.length).filter fun k => decide ((nd l k).parent = (i : Int))
theorem zy5 {i k : Nat} : k ∈ znc l i ↔ k < l.length ∧ (nd l k).parent = (i : Int) := by
 unfold znc; rw [List.mem_filter, List.mem_range, decide_eq_true_iff]
theorem yav (h : MayT l) {i k : Nat} (hk : k ∈ znc l i) : i < k ∧ sl l i < sl l k ∧ up l k = i := by
 obtain ⟨h1, h2⟩ := zy5.1 hk
 by_cases h0 : k = 0
 ·
  subst h0; rw [h.first] at h2; omega
 ·
  obtain ⟨e, hu, hs⟩ := h.par (Nat.pos_of_ne_zero h0) h1
  have : up l k = i := by omega
  rw [this] at hu hs
  exact ⟨hu, hs, this⟩
end
section
variable (p : Nat → Bool)
def ymd (k : Nat) : Nat := ((List.range k).filter p).length
end
def yi0 (l : List Nd) (i k : Nat) : Bool := decide (k < l.length) && zat l i k
def yme (l : List Nd) (i k : Nat) : Nat := ymd (yi0 l i) k
def cutN (l : List Nd) (i k : Nat) : Nd := { nd l k with parent := if k = i then -1 else (yme l i (up l k) : Int) }
def ylt (l : List Nd) (i : Nat) : List Nat := (List.range l.length).filter (yi0 l i)
def cutL (l : List Nd) (i : Nat) : List Nd := (ylt l i).map (cutN l i)
section
variable {l : List Nd}
theorem z3x (h : MayT l) {i s : Nat} (hi : i < l.length) (hs : sl l i ≤ s) : atT l i s = i := by
 by_cases h0 : i = 0
 ·
  subst h0; rw [zqq, if_pos hs]; rfl
 ·
  rw [z3z h s (Nat.pos_of_ne_zero h0) hi, if_pos hs]
end
def isT (l : List Nd) (i : Int) : Bool := decide (MayT l) && (decide (0 ≤ i) && decide (i < l.length))
def zbp (l : List Nd) (i k : Int) : Bool := (isT l i && isT l k) && zat l i.toNat k.toNat
def atZ (l : List Nd) (i : Int) (s : Nat) : Int := if isT l i = true then atT l i.toNat s else -1
def z09 (l : List Nd) (i : Int) : List Nat := if isT l i = true then znc l i.toNat else []
def cutZ (l : List Nd) (i : Int) : List Nd := if isT l i = true then cutL l i.toNat else []
section
variable {l : List Nd}
theorem zb2 {i : Int} : isT l i = true ↔ MayT l ∧ 0 ≤ i ∧ i < l.length := by
 unfold isT
 rw [Bool.and_eq_true, Bool.and_eq_true, decide_eq_true_iff, decide_eq_true_iff, decide_eq_true_iff]
theorem zg0 (h : MayT l) {i : Nat} (hi : i < l.length) : isT l (i : Int) = true := zb2.2 ⟨h, by omega, by omega⟩
theorem zdn (h : MayT l) {i k : Nat} (hi : i < l.length) (hk : k < l.length) : zbp l (i : Int) (k : Int) = zat l i k := by
 unfold zbp
 rw [zg0 h hi, zg0 h hk]
 simp
theorem zma (h : MayT l) {i : Nat} (hi : i < l.length) (s : Nat) : atZ l (i : Int) s = atT l i s := by
 unfold atZ
 rw [if_pos (zg0 h hi)]
 simp
theorem znd (h : MayT l) {i : Nat} (hi : i < l.length) : z09 l (i : Int) = znc l i := by
 unfold z09
 rw [if_pos (zg0 h hi)]
 simp
theorem yaa (h : MayT l) {i : Nat} (hi : i < l.length) : cutZ l (i : Int) = cutL l i := by
 unfold cutZ
 rw [if_pos (zg0 h hi)]
 simp
end
def sumF (f : Nat → Nat) : Nat → Nat
 | 0 => 0
 | n + 1 => sumF f n + f n
theorem zjq (f g : Nat → Nat) : ∀ n, sumF (fun k => f k + g k) n = sumF f n + sumF g n
 | 0 => rfl
 | n + 1 => by simp only [sumF]; rw [zjq f g n]; omega
theorem zbx {f g : Nat → Nat} : ∀ n, (∀ k, k < n → f k = g k) → sumF f n = sumF g n
 | 0, _ => rfl
 | n + 1, h => by simp only [sumF]; rw [zbx n (fun k hk => h k (by omega)), h n (by omega)]
theorem zfu : ∀ n, sumF (fun _ => 0) n = 0
 | 0 => rfl
 | n + 1 => by simp only [sumF]; rw [zfu n]
theorem zu2 (f : Nat → Nat → Nat) (m : Nat) : ∀ n, sumF (fun k => sumF (f k) m) n = sumF (fun j => sumF (fun k => f k j) n) m
 | 0 => by simp only [sumF]; rw [zfu]
 | n + 1 => by
  simp only [sumF]
  rw [zu2 f m n, ← zjq]
theorem zxu {f g : Nat → Nat} : ∀ n, (∀ k, k < n → f k ≤ g k) → sumF f n ≤ sumF g n
 | 0, _ => Nat.le_refl _
 | n + 1, h => by simp only [sumF]; have := zxu n (fun k hk => h k (by omega)); have := h n (by omega); omega
theorem z8a (f : Nat → Nat) {m n : Nat} (h : m ≤ n) : sumF f m ≤ sumF f n := by
 induction n with
 | zero =>
      obtain rfl : m = 0 := by omega
      exact Nat.le_refl _
 | succ n ih =>
  by_cases e : m = n + 1
  ·
   subst e; exact Nat.le_refl _
  ·
   have := ih (by omega); simp only [sumF]; omega
theorem zsg (f : Nat → Nat) {n i : Nat} (h : i < n) (hz : ∀ k, k < n → k ≠ i → f k = 0) : sumF f n = f i := by
 induction n with
 | zero => omega
 | succ n ih =>
  simp only [sumF]
  by_cases e : i = n
  ·
   subst e
   rw [zbx (g := fun _ => 0) i (fun k hk => hz k (by omega) (by omega)), zfu, Nat.zero_add]
  ·
   rw [ih (by omega) (fun k hk hn => hz k (by omega) hn), hz n (by omega) (fun e2 => e e2.symm), Nat.add_zero]
theorem zqn (p : Nat → Bool) (g : Nat → Nat) : ∀ n, (((List.range n).filter p).map g).sum = sumF (fun c => if p c = true then g c else 0) n
 | 0 => rfl
 | n + 1 => by
  rw [List.range_succ, List.filter_append, List.map_append, List.sum_append, zqn p g n]
  simp only [sumF]
  congr 1
  by_cases h : p n = true <;> simp [h]
def subT (l : List Nd) (f : Nat → Nat) (i : Nat) : Nat := sumF (fun k => if zat l i k = true then f k else 0) l.length
section
variable {l : List Nd}
theorem z79 (f : Nat → Nat) (i : Nat) (b : Nat) (h : ∀ k, k < l.length → f k ≤ b) : subT l f i ≤ l.length * b := by
 unfold subT
 have : ∀ n, n ≤ l.length → sumF (fun k => if zat l i k = true then f k else 0) n ≤ n * b := by
  intro n
  induction n with
  | zero => intro _; simp [sumF]
  | succ n ih =>
   intro hn
   simp only [sumF]
   have h1 := ih (by omega)
   have h2 : (if zat l i n = true then f n else 0) ≤ b := by
    split
    ·
     exact h n (by omega)
    ·
     omega
   rw [Nat.add_mul, Nat.one_mul]
   omega
 exact this _ (Nat.le_refl _)
theorem z5p (h : MayT l) (i : Nat) : ∀ k, k < l.length → sumF (fun c => if (nd l c).parent = (i : Int) ∧ zat l c k = true then 1 else 0) l.length = if zat l i k = true ∧ k ≠ i then 1 else 0 := by
 intro k
 induction k using Nat.strongRecOn with
 | _ k ih =>
  intro hk
  by_cases h0 : k = 0
  ·
   subst h0
   rw [zbx (g := fun _ => 0) _ (fun c _ => ?_), zfu, if_neg ?_]
   ·
    rintro ⟨h1, h2⟩
    rw [zcg, decide_eq_true_iff] at h1
    omega
   ·
    rw [if_neg]
    rintro ⟨h1, h2⟩
    rw [zcg, decide_eq_true_iff] at h2
    subst h2
    rw [h.first] at h1
    omega
  ·
   have hp := Nat.pos_of_ne_zero h0
   obtain ⟨hpar, hu, _⟩ := h.par hp hk
   have e : ∀ c, c < l.length → (if (nd l c).parent = (i : Int) ∧ zat l c k = true then 1 else 0) = (if c = k ∧ (nd l c).parent = (i : Int) then 1 else 0) + (if (nd l c).parent = (i : Int) ∧ zat l c (up l k) = true then 1 else 0) := by
    intro c _
    by_cases hc : c = k
    ·
     subst hc
     have hn : zat l c (up l c) = false := by
      rw [← Bool.not_eq_true]; intro e
      have := zhf h c _ (by omega) e; omega
     rw [hn, zcn h hk]
     simp
    ·
     have : zat l c k = zat l c (up l k) := by
      rw [Bool.eq_iff_iff, zby h c hp hk]
      exact ⟨fun e => e.resolve_left hc, .inr⟩
     rw [this]
     simp [hc]
   rw [zbx _ e, zjq, ih _ hu (by omega)]
   rw [zsg (fun c => if c = k ∧ (nd l c).parent = (i : Int) then 1 else 0) hk (fun c _ hc => by rw [if_neg]; rintro ⟨h1, _⟩; exact hc h1)]
   by_cases hi : up l k = i
   ·
    have h1 : (nd l k).parent = (i : Int) := by rw [hpar, hi]
    have h2 : zat l i k = true := (zby h i hp hk).2 (.inr (by rw [hi]; exact zcn h (by omega)))
    rw [if_pos ⟨rfl, h1⟩, if_neg (fun e => e.2 hi), if_pos ⟨h2, by omega⟩]
   ·
    have h1 : ¬ (nd l k).parent = (i : Int) := by rw [hpar]; omega
    rw [if_neg (fun e => h1 e.2), Nat.zero_add]
    by_cases hki : k = i
    ·
     subst hki
     have hn : zat l k (up l k) = false := by
      rw [← Bool.not_eq_true]; intro e
      have := zhf h k _ (by omega) e; omega
     rw [hn]
     simp
    ·
     have : zat l i k = zat l i (up l k) := by
      rw [Bool.eq_iff_iff, zby h i hp hk]
      exact ⟨fun e => e.resolve_left (fun e2 => hki e2.symm), .inr⟩
     rw [this]
     simp [hi, hki]
theorem zzu (h : MayT l) (f : Nat → Nat) {i : Nat} (hi : i < l.length) : subT l f i = f i + sumF (fun c => if (nd l c).parent = (i : Int) then subT l f c else 0) l.length := by
 have e1 : sumF (fun c => if (nd l c).parent = (i : Int) then subT l f c else 0) l.length = sumF (fun c => sumF (fun k => if (nd l c).parent = (i : Int) ∧ zat l c k = true then f k else 0) l.length) l.length := by
  refine zbx _ fun c _ => ?_
  by_cases hc : (nd l c).parent = (i : Int)
  ·
   rw [if_pos hc]
   unfold subT
   refine zbx _ fun k _ => ?_
   simp [hc]
  ·
   rw [if_neg hc, zbx (g := fun _ => 0) _ (fun k _ => by rw [if_neg (fun e => hc e.1)]), zfu]
 rw [e1, zu2]
 have e2 : ∀ k, k < l.length → sumF (fun c => if (nd l c).parent = (i : Int) ∧ zat l c k = true then f k else 0) l.length = if zat l i k = true ∧ k ≠ i then f k else 0 := by
  intro k hk
  have := z5p h i k hk
  have e3 : ∀ n, sumF (fun c => if (nd l c).parent = (i : Int) ∧ zat l c k = true then f k else 0) n = sumF (fun c => if (nd l c).parent = (i : Int) ∧ zat l c k = true then 1 else 0) n * f k := by
   intro n
   induction n with
   | zero => simp [sumF]
   | succ n ih =>
    simp only [sumF]
    rw [ih, Nat.add_mul]
    congr 1
    split <;> simp
  rw [e3, this]
  split <;> simp
 rw [zbx _ e2]
 have e4 : f i = sumF (fun k => if k = i then f k else 0) l.length := by
  rw [zsg (fun k => if k = i then f k else 0) hi (fun k _ hk => by rw [if_neg hk]), if_pos rfl]
 rw [e4, ← zjq]
 unfold subT
 refine zbx _ fun k _ => ?_
 by_cases hk : k = i
 ·
  subst hk
  rw [zcn h hi]
  simp
 ·
  simp [hk]
end
def fn (a : List UInt64) (k : Nat) : Nat := (a.getD k 0).toNat
theorem yas (a : List UInt64) (k : Nat) : fn a k < 18446744073709551616 := (a.getD k 0).toNat_lt
theorem yfg {a : List UInt64} {k : Nat} (h : k < a.length) : fn a k = a[k].toNat := by unfold fn; simp [h]
theorem z5e {a b : List UInt64} (hl : a.length = b.length) (h : ∀ k, k < b.length → fn a k = fn b k) : a = b := by
 refine List.ext_getElem hl fun k h1 h2 => UInt64.toNat_inj.1 ?_
 have := h k h2
 rwa [yfg h1, yfg h2] at this
def zcd (f : Nat → Nat) (n : Nat) : List UInt64 := (List.range n).map fun i => UInt64.ofNat (f i)
theorem zdg (f : Nat → Nat) (n : Nat) : (zcd f n).length = n := by simp [zcd]
theorem zjg (f : Nat → Nat) (n : Nat) : zcd f (n + 1) = zcd f n ++ [UInt64.ofNat (f n)] := by simp [zcd, List.range_succ]
theorem zv6 {f : Nat → Nat} {n k : Nat} (hk : k < n) (hf : f k < 18446744073709551616) : fn (zcd f n) k = f k := by
 unfold fn zcd
 rw [List.getD_eq_getElem?_getD, List.getElem?_map, List.getElem?_range hk]
 simp only [Option.map_some, Option.getD_some, UInt64.toNat_ofNat']
 omega
def FitW (l : List Nd) (a : List UInt64) : Prop := a.length = l.length ∧ ∀ i, i < l.length → subT l (fn a) i < 18446744073709551616
instance (l : List Nd) (a : List UInt64) : Decidable (FitW l a) := by unfold FitW; exact inferInstance
def zez (l : List Nd) (a : List UInt64) : Bool := decide (MayT l ∧ FitW l a)
def subL (l : List Nd) (a : List UInt64) : List UInt64 := if zez l a = true then zcd (subT l (fn a)) l.length else []
section
variable {l : List Nd} {a : List UInt64}
theorem zdj : zez l a = true ↔ MayT l ∧ a.length = l.length ∧ ∀ i, i < l.length → subT l (fn a) i < 18446744073709551616 := by
 unfold zez FitW
 rw [decide_eq_true_iff]
theorem zsf (h : zez l a = true) : subL l a = zcd (subT l (fn a)) l.length := by unfold subL; rw [if_pos h]
theorem zse (h : zez l a = false) : subL l a = [] := by unfold subL; rw [if_neg (by rw [h]; exact Bool.false_ne_true)]
theorem zsd (h : zez l a = true) : (subL l a).length = l.length := by rw [zsf h, zdg]
theorem yg9 (h : zez l a = true) {i : Nat} (hi : i < l.length) : fn (subL l a) i = subT l (fn a) i := by
 rw [zsf h]
 exact zv6 hi ((zdj.1 h).2.2 i hi)
def zg4 (l : List Nd) (a : List UInt64) (i k : Nat) : Nat := sumF (fun k => if zat l i k = true then fn a k else 0) k
theorem z1x (l : List Nd) (a : List UInt64) (i : Nat) : zg4 l a i 0 = 0 := rfl
theorem z68 {i k : Nat} (h : zat l i k = true) : zg4 l a i (k + 1) = zg4 l a i k + fn a k := by
 show sumF _ k + (if zat l i k = true then fn a k else 0) = _
 rw [if_pos h]; rfl
theorem ybu {i k : Nat} (h : zat l i k = false) : zg4 l a i (k + 1) = zg4 l a i k := by
 show sumF _ k + (if zat l i k = true then fn a k else 0) = _
 rw [if_neg (by rw [h]; exact Bool.false_ne_true)]; rfl
theorem z67 (l : List Nd) (a : List UInt64) (i : Nat) : zg4 l a i l.length = subT l (fn a) i := rfl
theorem ybt {i k : Nat} (hk : k ≤ l.length) : zg4 l a i k ≤ subT l (fn a) i := z8a _ hk
variable {w p m : List UInt64}
theorem zxt (h : MayT l) (hl : a.length = l.length) {b : Nat} (hb : b * 12 < 18446744073709551616) (ha : ∀ k, k < l.length → fn a k ≤ b) : zez l a = true := by
 refine zdj.2 ⟨h, hl, fun i _ => ?_⟩
 have h1 := z79 (l := l) (fn a) i b ha
 have h2 : l.length * b ≤ 12 * b := Nat.mul_le_mul_right _ h.le
 omega
end
section
open Go.RowKit
structure Lt where
 has : Bool
 root : Rt
 epoch : UInt64
theorem Lt.ext {x y : Lt} (h0 : x.has = y.has) (h1 : x.root = y.root) (h2 : x.epoch = y.epoch) : x = y := by cases x; cases y; simp_all
instance : DecidableEq Lt := fun x y => decidable_of_iff (x.has = y.has ∧ x.root = y.root ∧ x.epoch = y.epoch) ⟨fun h => Lt.ext h.1 h.2.1 h.2.2, fun h => by subst h; exact ⟨rfl, rfl, rfl⟩⟩
def ltL (x : Lt) : List Value := [.bool x.has] ++ ((rc x.root).toList ++ ([num x.epoch]))
def lt (x : Lt) : Array Value := (ltL x).toArray
theorem zwi (x : Lt) : (lt x).toList = ltL x := rfl
theorem ydr (x : Lt) : (ltL x).length = 34 := by simp [ltL, zay]
theorem zrh (x : Lt) : (lt x).size = 34 := by rw [← Array.length_toList, zwi, ydr]
theorem yds (x : Lt) : ∀ v ∈ ltL x, v.oneCell' = true := by
 intro v hv
 unfold ltL at hv
 simp only [List.mem_append, List.mem_singleton] at hv
 rcases hv with rfl | hv | rfl
 ·
  rfl
 ·
  exact zg5 _ v hv
 ·
  rfl
@[go_sem] theorem ymv (x : Lt) : okA 34 (.agg (lt x)) = true := by
 show ((lt x).size == 34 && (lt x).all (·.oneCell')) = true
 rw [show (lt x).all (·.oneCell') = true from zdo (yds x), zrh]; rfl
def zlt : Lt := ⟨false, zr, 0⟩
theorem z81 (w : World) : (zeroValue 115).run Tryz.prog w = .ok (.agg (lt zlt)) w := by kernel_rfl
@[go_sem ↓] theorem yl3 (ρ : Operand → Value) (dst : Option Tmp) (x : Operand) (ty : TypeId) (pos : String) (after : Array Edge) (guard : Option (Nat × Bool)) (w : World) :
  (execOp ρ { dst, op := .load 115 x, type := ty, pos, after, guard }).run Tryz.prog w = zi5 (ldA w (ρ x) 34) w (zbf Tryz.prog ρ { dst, op := .load 115 x, type := ty, pos, after, guard } w) :=
 zbq Tryz.isAgg115 Tryz.sizeOf115 ρ dst x ty pos after guard w
@[go_sem ↓] theorem yk9 (ρ : Operand → Value) (dst : Option Tmp) (x y : Operand) (ty : TypeId) (pos : String) (after : Array Edge) (guard : Option (Nat × Bool)) (w : World) :
  (execOp ρ { dst, op := .store 115 x y, type := ty, pos, after, guard }).run Tryz.prog w = zhv (wrA w (ρ x) 34 && okA 34 (ρ y)) (stA w (ρ x) (ρ y)) (zbf Tryz.prog ρ { dst, op := .store 115 x y, type := ty, pos, after, guard } w) :=
 zbe Tryz.sizeOf115 ρ dst x y ty pos after guard w
@[go_sem ↓] theorem ykj (ρ : Operand → Value) (dst : Option Tmp) (ty : TypeId) (pos : String) (after : Array Edge) (guard : Option (Nat × Bool)) (w : World) :
  (execOp ρ { dst, op := .alloc 115, type := ty, pos, after, guard }).run Tryz.prog w = .ok (.value (.pointer (some ⟨w.heap.size, 0, none⟩))) (w.alloc (.cells (lt zlt) 115)) := by
 unfold execOp
 simp only [Instr.alloc, Sem.run_bind, z81, Result.andThen_ok]
 rfl
def places_lt : List (Nat × Nat) := [(0, 1), (1, 32), (33, 1)]
theorem z47 : ∀ w : World, ((Tryz.prog.fieldsOf 115).mapM (m := Sem) fun f => do pure (f.offset, ← Go.sizeOf f.type)).run Tryz.prog w = .ok places_lt.toArray w := fun _ => by kernel_rfl
theorem zhr : Tryz.prog.underlying 115 = some (.struct (Tryz.prog.fieldsOf 115)) := by kernel_rfl
theorem zq4 : (Tryz.prog.fieldsOf 115).toList.map (fun f => (f.name, f.type, f.offset)) = [("Has", 4, 0), ("Root", 34, 1), ("Epoch", 27, 33)] := by kernel_rfl
@[go_sem ↓] theorem yh8 (ρ : Operand → Value) (dst : Option Tmp) (ty : TypeId) (pos : String) (after : Array Edge) (guard : Option (Nat × Bool)) (w : World) :
  (execOp ρ { dst, op := .build 115 #[], type := ty, pos, after, guard }).run Tryz.prog w = .ok (.value (.agg (lt zlt))) w :=
 zbv z81 zhr z47 ρ dst #[] ty pos after guard w
attribute [go_sem] places_lt zrh
theorem zja (x : Lt) : ltL x = ([]) ++ ([.bool x.has] ++ ((rc x.root).toList ++ ([num x.epoch]))) ∧ ([] : List Value).length = 0 := by
 constructor
 ·
  unfold ltL; simp
 ·
  rfl
theorem zkg (x : Lt) : (lt x)[0]? = some (.bool x.has) := zgy (zja x).1 (zja x).2
theorem ztz {w : World} {b off : Nat} {x : Lt} (h : w.rangeAt b off (ltL x)) : w.cell? ⟨b, off + 0, none⟩ = some (.bool x.has) := zbj h (zja x).1 (zja x).2
theorem zp5 {w : World} {g : Nat} {t : TypeId} {fr : Nat × Nat} {x : Lt} (h : w.heap[g]? = some (.cells (lt x) t fr)) : w.cell? ⟨g, 0, none⟩ = some (.bool x.has) := by have := ztz (x := x) (zak h); rwa [Nat.zero_add] at this
theorem zhl (x : Lt) : ltL x = ([.bool x.has]) ++ ((rc x.root).toList ++ ([num x.epoch])) ∧ ([.bool x.has] : List Value).length = 1 := by
 constructor
 ·
  unfold ltL; simp
 ·
  simp
theorem znk (x : Lt) : (lt x).extract 1 (1 + 32) = rc x.root := zck (zhl x).1 (zhl x).2 (zay _)
theorem zp6 {w : World} {b off : Nat} {x : Lt} (h : w.rangeAt b off (ltL x)) : ldA w (.pointer (some ⟨b, off + 1, none⟩)) 32 = some (rc x.root) := zb8 h (zhl x).1 (zhl x).2 (zay _)
theorem znl {w : World} {g : Nat} {t : TypeId} {fr : Nat × Nat} {x : Lt} (h : w.heap[g]? = some (.cells (lt x) t fr)) : ldA w (.pointer (some ⟨g, 1, none⟩)) 32 = some (rc x.root) := by have := zp6 (x := x) (zak h); rwa [Nat.zero_add] at this
theorem zf7 (x : Lt) : ltL x = ([.bool x.has] ++ (rc x.root).toList) ++ ([num x.epoch] ++ ([])) ∧ ([.bool x.has] ++ (rc x.root).toList : List Value).length = 33 := by
 constructor
 ·
  unfold ltL; simp
 ·
  simp [zay]
theorem zk0 (x : Lt) : (lt x)[33]? = some (num x.epoch) := zgy (zf7 x).1 (zf7 x).2
theorem zwj {w : World} {b off : Nat} {x : Lt} (h : w.rangeAt b off (ltL x)) : w.cell? ⟨b, off + 33, none⟩ = some (num x.epoch) := zbj h (zf7 x).1 (zf7 x).2
theorem zty {w : World} {g : Nat} {t : TypeId} {fr : Nat × Nat} {x : Lt} (h : w.heap[g]? = some (.cells (lt x) t fr)) : w.cell? ⟨g, 33, none⟩ = some (num x.epoch) := by have := zwj (x := x) (zak h); rwa [Nat.zero_add] at this
theorem yir (d : Nat) (x y : Lt) (w : World) : (Op.equalIn (d + 3) 115 (.agg (lt x)) (.agg (lt y))).run Tryz.prog w = .ok (decide (x = y)) w := by
 rw [show d + 3 = (d + 2) + 1 from rfl, run_equalIn_struct w (d + 2) _ _ _ zhr (by kernel_rfl)]
 rw [zce zq4 (by decide) (ybs _ _ _ (zkg x) w) (ybs _ _ _ (zkg y) w) (yip (d + 1) _ _ w)
  (fun _ h1 => zce h1 (by decide) (zny _ _ _ (znk x) w) (zny _ _ _ (znk y) w) (z42 (d + 0) _ _ w)
  (fun _ h2 => zce h2 (by decide) (zua _ _ _ (zk0 x) w) (zua _ _ _ (zk0 y) w) (yap (d + 1) _ _ w)
  (fun _ hn => zmx hn)))]
 congr 1
 rw [Bool.eq_iff_iff]
 simp only [Bool.and_eq_true, decide_eq_true_iff, and_true]
 exact ⟨fun h => Lt.ext h.1 h.2.1 h.2.2, fun h => by subst h; exact ⟨rfl, rfl, rfl⟩⟩
@[go_sem ↓] theorem ym6 (x y : Lt) (w : World) : (Op.equalIn 10000 115 (.agg (lt x)) (.agg (lt y))).run Tryz.prog w = .ok (decide (x = y)) w := yir 9997 x y w
theorem zpg : Tryz.prog.cellsOf 115 = 34 := by kernel_rfl
section
open Go.WideShapes Go.ChangeShapes
variable {H : Type} {enc : TypeId × Value → H} {w : World} {base : Nat} {sp : Nat → Bool} {held : Bool}
theorem z92 {fuel : Nat} {cs : List Value} {x : DataW H × List MemPlace} (hl : cs.length = 34) (h : DataW.trod enc Tryz.prog w base sp held fuel 115 cs = some x) : ∃ a : Lt, cs = ltL a := by
 obtain ⟨_, _, h0⟩ := zav (i := 0) zhr zq4 rfl h
 rw [zvs] at h0
 obtain ⟨a0, e0⟩ := z4a h0
 obtain ⟨_, _, h1⟩ := zav (i := 1) zhr zq4 rfl h
 rw [zcr] at h1
 obtain ⟨a1, e1⟩ := zdr h1
 obtain ⟨_, _, h2⟩ := zav (i := 2) zhr zq4 rfl h
 rw [zb9] at h2
 obtain ⟨a2, e2⟩ := zcy h2
 refine ⟨⟨a0, a1, a2⟩, ?_⟩
 unfold ltL
 have j0 := za9 cs 0 1
 rw [e0] at j0
 have j1 := za9 cs 1 32
 rw [e1] at j1
 have j2 := za9 cs 33 1
 rw [e2] at j2
 have jl : cs.drop 34 = [] := List.drop_of_length_le (by omega)
 rw [show (33 + 1) = 34 from rfl, jl, List.append_nil] at j2
 rw [← List.drop_zero (l := cs)]
 rw [← j0]
 rw [show cs.drop (0 + 1) = cs.drop 1 from rfl, ← j1]
 rw [show cs.drop (1 + 32) = cs.drop 33 from rfl, ← j2]
 try rfl
end
def Elt : Lie Lt := ⟨115, 34, ltL, by decide, ydr, yds⟩
attribute [irreducible] lt
end
def hasB (mask : UInt64) (v : Nat) : Bool := mask.toNat.testBit v
def ofN (f : Nat → Nat) (n : Nat) (mask : UInt64) : Nat := sumF (fun v => if hasB mask v = true then f v else 0) n
def allM : UInt64 := 18446744073709551615
theorem yfm (mask : UInt64) (v : Nat) : hasB mask v = decide (mask.toNat / 2 ^ v % 2 = 1) := Nat.testBit_eq_decide_div_mod_eq
section
variable (f : Nat → Nat) {n : Nat}
theorem ybn {B : Nat} (hf : ∀ v, v < n → f v ≤ B) (a : UInt64) : ofN f n a ≤ n * B := by
 unfold ofN
 have : ∀ m, m ≤ n → sumF (fun v => if hasB a v = true then f v else 0) m ≤ m * B := by
  intro m
  induction m with
  | zero => intro _; simp [sumF]
  | succ m ih =>
   intro hm
   simp only [sumF]
   have h1 := ih (by omega)
   have h2 : (if hasB a m = true then f m else 0) ≤ B := by
    split
    ·
     exact hf m (by omega)
    ·
     omega
   rw [Nat.add_mul, Nat.one_mul]
   omega
 exact this n (Nat.le_refl _)
end
def zlf (p w : Nat) : Bool := decide (2 * w ≤ 3 * p)
section
variable (f : Nat → Nat) {n : Nat}
end
def whoT (mask : UInt64) : List Nat := (List.range 64).filter (hasB mask)
theorem ygc {mask : UInt64} {v : Nat} : v ∈ whoT mask ↔ v < 64 ∧ hasB mask v = true := by unfold whoT; rw [List.mem_filter, List.mem_range]
theorem yj7 (f : Nat → Nat) (mask : UInt64) {n : Nat} (hn : n ≤ 64) : (((whoT mask).filter fun v => decide (v < n)).map f).sum = ofN f n mask := by
 unfold whoT
 rw [List.filter_filter, zqn]
 unfold ofN
 have h : ∀ m, m ≤ n → sumF (fun v => if (decide (v < n) && hasB mask v) = true then f v else 0) m = sumF (fun v => if hasB mask v = true then f v else 0) m := fun m hm => zbx _ fun v hv => by
  rw [decide_eq_true (show v < n by omega), Bool.true_and]
 have tail : ∀ d, n + d ≤ 64 → sumF (fun v => if (decide (v < n) && hasB mask v) = true then f v else 0) (n + d) = sumF (fun v => if (decide (v < n) && hasB mask v) = true then f v else 0) n := by
  intro d
  induction d with
  | zero => intro _; rfl
  | succ d ih =>
   intro hd
   rw [show n + (d + 1) = (n + d) + 1 by omega]
   simp only [sumF]
   rw [ih (by omega), decide_eq_false (show ¬ n + d < n by omega)]
   simp
 have := tail (64 - n) (by omega)
 rw [show n + (64 - n) = 64 by omega] at this
 rw [this, h n (Nat.le_refl _)]
def MayS (bal : List UInt64) : Prop := 1 ≤ bal.length ∧ bal.length ≤ 8 ∧ ∀ i, i < bal.length → fn bal i ≤ 1099511627776
instance (bal : List UInt64) : Decidable (MayS bal) := by unfold MayS; exact inferInstance
def mayB (bal : List UInt64) : Bool := decide (MayS bal)
def bitN (v : Int) : Nat := if 0 ≤ v ∧ v ≤ 63 then 2 ^ v.toNat else 0
def hasZ (mask : UInt64) (v : Int) : Bool := decide (0 ≤ v ∧ v ≤ 63) && hasB mask v.toNat
def ofS (bal : List UInt64) (mask : UInt64) : Nat := if mayB bal = true then ofN (fn bal) bal.length mask else 0
def totS (bal : List UInt64) : Nat := ofS bal allM
def zt4 (bal : List UInt64) (mask : UInt64) : Bool := mayB bal && zlf (ofS bal mask) (totS bal)
section
variable {bal : List UInt64} {mask : UInt64}
theorem zb7 : mayB bal = true ↔ 1 ≤ bal.length ∧ bal.length ≤ 8 ∧ ∀ i, i < bal.length → fn bal i ≤ 1099511627776 := by unfold mayB; rw [decide_eq_true_iff]; rfl
theorem z6t (h : mayB bal = false) : ofS bal mask = 0 := by unfold ofS; rw [if_neg (by rw [h]; exact Bool.false_ne_true)]
theorem zwt (h : mayB bal = true) : ofS bal mask = ofN (fn bal) bal.length mask := by unfold ofS; rw [if_pos h]
theorem z6w (h : mayB bal = true) {k : Nat} (hk : k ≤ bal.length) : ofN (fn bal) k mask ≤ 8796093022208 := by
 obtain ⟨_, h2, h3⟩ := zb7.1 h
 have := ybn (fn bal) (n := k) (B := 1099511627776) (fun v hv => h3 v (by omega)) mask
 omega
theorem z6s : ofS bal mask ≤ 8796093022208 := by
 cases h : mayB bal
 ·
  rw [z6t h]; omega
 ·
  rw [zwt h]; exact z6w h (Nat.le_refl _)
theorem zwu (f : Nat → Nat) {k : Nat} (h : hasB mask k = true) : ofN f (k + 1) mask = ofN f k mask + f k := by
 show ofN f k mask + (if hasB mask k = true then f k else 0) = _
 rw [if_pos h]
theorem z1s (f : Nat → Nat) {k : Nat} (h : hasB mask k = false) : ofN f (k + 1) mask = ofN f k mask := by
 show ofN f k mask + (if hasB mask k = true then f k else 0) = _
 rw [if_neg (by rw [h]; exact Bool.false_ne_true), Nat.add_zero]
theorem zip {v : Nat} (h : v < 64) : bitN (v : Int) = 2 ^ v := by unfold bitN; rw [if_pos (by omega)]; rfl
theorem zyq {v : Nat} (h : v < 64) : hasZ mask (v : Int) = hasB mask v := by unfold hasZ; rw [decide_eq_true (by omega)]; rfl
theorem z6e (p w : Nat) : decide (2 * (w / 3) + w % 3 ≤ p) = zlf p w := by
 unfold zlf
 rw [Bool.eq_iff_iff, decide_eq_true_iff, decide_eq_true_iff]
 omega
end
structure Vt where
 l : List Lt
 out : UInt64
def lat (l : List Lt) (i : Nat) : Lt := l.getD i zlt
theorem z5s {l : List Lt} {i : Nat} (h : i < l.length) : lat l i = l[i] := by unfold lat; simp [h]
def okAt (v : Vt) (i : Nat) : Bool := if hasB v.out i = true ∧ ¬ i < v.l.length then false else if i < v.l.length ∧ (hasB v.out i = true ∨ (lat v.l i).has = false) then decide (lat v.l i = zlt) else true
def MayV (v : Vt) : Prop := 1 ≤ v.l.length ∧ v.l.length ≤ 8 ∧ ∀ i, i < 64 → okAt v i = true
instance (v : Vt) : Decidable (MayV v) := by unfold MayV; exact inferInstance
def mayV (v : Vt) : Bool := decide (MayV v)
theorem zcf {v : Vt} : mayV v = true ↔ 1 ≤ v.l.length ∧ v.l.length ≤ 8 ∧ ∀ i, i < 64 → okAt v i = true := by unfold mayV; rw [decide_eq_true_iff]; rfl
theorem zrt {v : Vt} {i : Nat} : okAt v i = true ↔ (hasB v.out i = true → i < v.l.length) ∧ (i < v.l.length → hasB v.out i = true ∨ (lat v.l i).has = false → lat v.l i = zlt) := by
 unfold okAt
 by_cases h1 : hasB v.out i = true ∧ ¬ i < v.l.length
 ·
  rw [if_pos h1]
  exact ⟨fun e => by (cases e), fun e => absurd (e.1 h1.1) h1.2⟩
 ·
  rw [if_neg h1]
  by_cases h2 : i < v.l.length ∧ (hasB v.out i = true ∨ (lat v.l i).has = false)
  ·
   rw [if_pos h2, decide_eq_true_iff]
   exact ⟨fun e => ⟨fun _ => h2.1, fun _ _ => e⟩, fun e => e.2 h2.1 h2.2⟩
  ·
   rw [if_neg h2]
   refine ⟨fun _ => ⟨fun e => Classical.byContradiction fun n => h1 ⟨e, n⟩, fun h3 h4 => absurd ⟨h3, h4⟩ h2⟩, fun _ => rfl⟩
def zgl (n : Int) : Bool := decide (1 ≤ n ∧ n ≤ 8)
def newV (n : Int) : Vt := if zgl n = true then ⟨List.replicate n.toNat zlt, 0⟩ else ⟨[], 0⟩
def inV (v : Vt) (i : Int) : Bool := decide (0 ≤ i ∧ i < v.l.length)
theorem yat (k : Nat) : hasB 0 k = false := Nat.zero_testBit k
section
variable {v : Vt} {i : Nat} {r : Rt} {ep : UInt64}
theorem yma {n : Int} : (newV n).l.length ≤ 8 := by
 unfold newV
 by_cases h : zgl n = true
 ·
  have := of_decide_eq_true h
  rw [if_pos h]; simp; omega
 ·
  rw [if_neg h]; simp
theorem ygf {n : Int} (h : zgl n = true) : mayV (newV n) = true ∧ (newV n).l.length = n.toNat ∧ (newV n).out = 0 ∧ ∀ i, lat (newV n).l i = zlt := by
 have h' := of_decide_eq_true h
 have e : newV n = ⟨List.replicate n.toNat zlt, 0⟩ := by unfold newV; rw [if_pos h]
 have hl : ∀ i, lat (List.replicate n.toNat zlt) i = zlt := fun i => by
  unfold lat
  rw [List.getD_eq_getElem?_getD, List.getElem?_replicate]
  split <;> rfl
 rw [e]
 refine ⟨zcf.2 ⟨by simp; omega, by simp; omega, fun i _ => zrt.2 ⟨fun q => ?_, fun _ _ => hl i⟩⟩, by simp, rfl, hl⟩
 have : hasB 0 i = true := q
 rw [yat] at this
 cases this
end
end Go.Proofs.YtkalofboioffiaaGreat
