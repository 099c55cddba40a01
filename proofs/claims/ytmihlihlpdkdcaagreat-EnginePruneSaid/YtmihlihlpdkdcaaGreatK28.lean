import Derived.Test.YtmihlihlpdkdcaaGreatQ07
import Derived.Test.YtmihlihlpdkdcaaGreatK11
import Derived.Laws.OwnMore
import Derived.Deep.AppendLies
import Derived.OwnWalk
import Derived.Test.YtmihlihlpdkdcaaGreatK27
import Derived.Test.YtmihlihlpdkdcaaGreatK20
import Derived.Deep.Cut
import Derived.Test.YtmihlihlpdkdcaaGreatK13
import Derived.Test.YtmihlihlpdkdcaaGreatK15
import Derived.Test.YtmihlihlpdkdcaaGreatK12
import Derived.Test.YtmihlihlpdkdcaaGreatK19
import Derived.Test.YtmihlihlpdkdcaaGreatK26
import Derived.Test.YtmihlihlpdkdcaaGreatQ08
namespace Go.Proofs.YtmihlihlpdkdcaaGreat
open Go.RowKit
set_option maxRecDepth 200000
set_option maxHeartbeats 64000000
def accF (l : List Nd) (v : Vt) (bal : List UInt64) (ks : List Nat) (i : Nat) : Nat := (ks.map fun k => if (lat v.l k).root = (nd l i).root then fn bal k else 0).sum
section
variable {l : List Nd} {v o : Vt} {bal : List UInt64}
theorem yqs (i : Nat) : accF l v bal [] i = 0 := rfl
theorem zqw (ks : List Nat) (k i : Nat) : accF l v bal (ks ++ [k]) i = accF l v bal ks i + (if (lat v.l k).root = (nd l i).root then fn bal k else 0) := by
 unfold accF
 rw [List.map_append, List.sum_append]
 simp
theorem yut {B : Nat} (h : ∀ k, fn bal k ≤ B) (ks : List Nat) (i : Nat) : accF l v bal ks i ≤ ks.length * B := by
 unfold accF
 induction ks with
 | nil => simp
 | cons k ks ih =>
  rw [List.map_cons, List.sum_cons, List.length_cons, Nat.add_mul, Nat.one_mul]
  have := h k
  split <;> omega
theorem ytq {k : Nat} (h : bal.length ≤ k) : fn bal k = 0 := by
 unfold fn
 rw [List.getD_eq_getElem?_getD, List.getElem?_eq_none h]
 rfl
theorem yr5 (h : mayB bal = true) (k : Nat) : fn bal k ≤ 1099511627776 := by
 by_cases hk : k < bal.length
 ·
  exact (zfl.1 h).2.2 k hk
 ·
  rw [ytq (by omega)]; omega
theorem yp1 (i n : Nat) : accF l v bal ((List.range n).filter fun k => (lat v.l k).has && decide (lat v.l k ≠ lat o.l k)) i = selF (newB l v o i) (fn bal) n := by
 induction n with
 | zero => rfl
 | succ n ih =>
  rw [List.range_succ, List.filter_append]
  cases hn : ((lat v.l n).has && decide (lat v.l n ≠ lat o.l n))
  ·
   have e : List.filter (fun k => (lat v.l k).has && decide (lat v.l k ≠ lat o.l k)) [n] = [] := by rw [List.filter_cons, if_neg (by rw [hn]; exact Bool.false_ne_true)]; rfl
   rw [e, List.append_nil, ih]
   have e2 : newB l v o i n = false := by
    unfold newB forB
    rw [Bool.and_assoc, Bool.and_comm (decide ((lat v.l n).root = (nd l i).root)), ← Bool.and_assoc, hn, Bool.false_and]
   rw [ye6 e2]
  ·
   have e : List.filter (fun k => (lat v.l k).has && decide (lat v.l k ≠ lat o.l k)) [n] = [n] := by rw [List.filter_cons, if_pos hn]; rfl
   rw [e, zqw, ih]
   have e2 : newB l v o i n = decide ((lat v.l n).root = (nd l i).root) := by
    unfold newB forB
    rw [Bool.and_assoc, Bool.and_comm (decide ((lat v.l n).root = (nd l i).root)), ← Bool.and_assoc, hn, Bool.true_and]
   by_cases hr : (lat v.l n).root = (nd l i).root
   ·
    rw [if_pos hr, yla (by rw [e2]; exact decide_eq_true hr)]
   ·
    rw [if_neg hr, ye6 (by rw [e2]; exact decide_eq_false hr), Nat.add_zero]
theorem zpr {f g : Nat → Nat} : ∀ {n : Nat}, (∀ i, i < n → f i = g i) → zde f n = zde g n
 | 0, _ => rfl
 | n + 1, h => by rw [zzu, zzu, zpr (fun i hi => h i (by omega)), h n (by omega)]
theorem yke {f g : Nat → Nat} {n a : Nat} (h : ∀ i, i < n → i ≠ a → g i = f i) : (zde f n).set a (UInt64.ofNat (g a)) = zde g n := by
 refine List.ext_getElem? fun i => ?_
 by_cases hi : i < n
 ·
  have e1 : (zde f n)[i]? = some (UInt64.ofNat (f i)) := by unfold zde; simp [hi]
  have e2 : (zde g n)[i]? = some (UInt64.ofNat (g i)) := by unfold zde; simp [hi]
  rw [e2, List.getElem?_set]
  by_cases ha : a = i
  ·
   subst ha
   rw [if_pos rfl, if_pos (by rw [zfn]; exact hi)]
  ·
   rw [if_neg ha, e1, h i hi (fun e => ha e.symm)]
 ·
  rw [List.getElem?_eq_none (by rw [List.length_set, zfn]; omega), List.getElem?_eq_none (by rw [zfn]; omega)]
theorem ygm (hm : MayT l) {k a : Nat} (ha : zay l (lat v.l k).root = (a : Int)) (ks : List Nat) : a < l.length ∧ (zde (accF l v bal ks) l.length).set a (UInt64.ofNat (accF l v bal ks a + fn bal k)) = zde (accF l v bal (ks ++ [k])) l.length := by
 rcases ze3 hm (lat v.l k).root with ⟨i, hi, he, hr⟩ | ⟨he, _⟩
 ·
  rw [ha] at he
  have e : a = i := by omega
  subst e
  refine ⟨hi, ?_⟩
  have h1 : accF l v bal (ks ++ [k]) a = accF l v bal ks a + fn bal k := by rw [zqw, if_pos hr.symm]
  rw [← h1]
  refine yke fun j hj hne => ?_
  rw [zqw, if_neg, Nat.add_zero]
  intro e2
  have h3 := zl6 hm hj
  rw [← e2, ha] at h3
  omega
 ·
  rw [ha] at he; omega
theorem yjp (hm : MayT l) {k : Nat} (ha : zay l (lat v.l k).root < 0) (ks : List Nat) : zde (accF l v bal ks) l.length = zde (accF l v bal (ks ++ [k])) l.length := by
 rcases ze3 hm (lat v.l k).root with ⟨i, hi, he, hr⟩ | ⟨_, hn⟩
 ·
  omega
 ·
  refine zpr fun i hi => ?_
  rw [zqw, if_neg (fun e => hn i hi e.symm), Nat.add_zero]
theorem yjj (n : Nat) : zde (accF l v bal []) n = List.replicate n 0 := by
 refine List.ext_getElem? fun i => ?_
 by_cases hi : i < n
 ·
  have e1 : (zde (accF l v bal []) n)[i]? = some (UInt64.ofNat 0) := by unfold zde; simp [hi, yqs]
  rw [e1]; simp [hi]
 ·
  rw [List.getElem?_eq_none (by rw [zfn]; omega), List.getElem?_eq_none (by simp; omega)]
end
theorem ymu (b : List UInt64) (x : UInt64) (h : Nat) : zan Enum (b.set h x) = (zan Enum b).set h (num x) := by
 induction b generalizing h with
 | nil => rfl
 | cons y b ih => cases h with
  | zero => rfl
  | succ h => show num y :: zan Enum (b.set h x) = _; rw [ih]; rfl
theorem zrb {w : World} {base g n cap : Nat} {b : List UInt64} (h : OwnE Enum w base (.slice (some ⟨g, 0, none⟩) n cap) b) (hn : b.length = n) (k : Nat) {x : Nat} (hx : x < 18446744073709551616) : OwnE Enum (w.setCell ⟨g, k, none⟩ (.int .u64 (x : Int))) base (.slice (some ⟨g, 0, none⟩) n cap) (b.set k (UInt64.ofNat x)) := by
 subst hn
 unfold OwnE at h ⊢
 rw [ymu, List.length_set, yie hx]
 exact (World.ownsRow.stored h k (.int .u64 (x : Int))).1
theorem ziv {w : World} {base g n cap : Nat} {b : List UInt64} (h : OwnE Enum w base (.slice (some ⟨g, 0, none⟩) n cap) b) (hn : b.length = n) (k : Nat) : w.frozen? ⟨g, k, none⟩ = false := by
 subst hn; exact World.ownsRow.frozenAt h k
theorem zdg {w : World} {base g n cap : Nat} {b : List UInt64} (h : OwnE Enum w base (.slice (some ⟨g, 0, none⟩) n cap) b) {k : Nat} (hk : k < b.length) : w.cell? ⟨g, k, none⟩ = some (.int .u64 (fn b k : Int)) := by
 obtain ⟨b1, o1, e, _, x⟩ := zcz (zak h) (by omega)
 injection e with e
 injection e with e1 e2
 subst e1 e2
 have := zca x hk
 rwa [Nat.zero_add] at this
theorem z2j {w : World} {base : Nat} {v : Value} {b : List UInt64} {n : Nat} (h : OwnE Enum w base v b) (hn : b.length = n) (h0 : 0 < n) : ∃ g cap, v = .slice (some ⟨g, 0, none⟩) n cap ∧ base ≤ g := by
 subst hn
 rcases h.2 with ⟨_, e⟩ | ⟨g, cap, cur, e, hb, _⟩
 ·
  omega
 ·
  exact ⟨g, cap, e, hb⟩
theorem yhj {w : World} {base : Nat} {v : Value} {n : Nat} (h : w.ownsRow base 30 1 v n (madeCells (num 0).cells (n * 1)).toList) : OwnE Enum w base v (List.replicate n 0) := by
 have e : (madeCells (num 0).cells (n * 1)).toList = zan Enum (List.replicate n 0) := by
  refine List.ext_getElem? fun i => ?_
  have h1 : (zan Enum (List.replicate n 0)).length = n := by rw [zbd, List.length_replicate]; show n * 1 = n; omega
  by_cases hi : i < n
  ·
   have h2 := zkv Enum (List.replicate n 0) i 0 (by simpa using hi) (by decide)
   rw [show i * Enum.n + 0 = i by show i * 1 + 0 = i; omega] at h2
   rw [h2, List.getElem_replicate, Array.getElem?_toList]
   have h3 : i < (madeCells (num 0).cells (n * 1)).size := by rw [size_madeCells]; omega
   rw [Array.getElem?_eq_getElem h3]
   simp [madeCells, num, Value.cells, Enum]
   rw [Nat.mod_one]
   rfl
  ·
   rw [List.getElem?_eq_none (by rw [Array.length_toList, size_madeCells]; omega), List.getElem?_eq_none (by omega)]
 unfold OwnE
 rw [List.length_replicate, ← e]
 exact h
section
open Go.Shelf
open Go.RowKit Go.Shelf
attribute [local go_sem] Oper.semAt_some
@[local go_sem ↓] theorem yod {P : Program} (l : Option Nat) (ρ : Operand → Value) (o : Oper) (w : World) (h : ∀ c, o.op ≠ .defer c) : (Oper.semAt l ρ o).run P w = (execOp ρ o).run P w := by rw [Oper.semAt_eq l ρ o h]
structure Byw (s0 g bx n : Nat) (t : Tr) (A : List Nat → List UInt64) (w : World) (ks : List Nat) (W : World) : Prop where
 tree : W.heap[s0]? = some (.cells (tr t) 28 (0, 0))
 box : W.heap[bx]? = some (.cells #[.slice (some ⟨g, 0, none⟩) n n] 24 (0, 0))
 own : OwnE Enum W (s0 + 1) (.slice (some ⟨g, 0, none⟩) n n) (A ks)
 old : Below s0 w W
section
variable {s0 g bx n : Nat} {t : Tr} {A : List Nat → List UInt64} {w W W' : World} {ks : List Nat}
theorem Byw.keep (h : Byw s0 g bx n t A w ks W) (k : Below W.heap.size W W') (hs : s0 ≤ W.heap.size) : Byw s0 g bx n t A w ks W' := ⟨zab k h.tree, zab k h.box, zah k h.own, h.old.trans (k.mono hs)⟩
theorem Byw.put (h : Byw s0 g bx n t A w ks W) (hg : s0 + 1 ≤ g) (hb : g ≠ bx) (hg0 : s0 ≤ g) {k' : List Nat} {k x : Nat} (hn : (A ks).length = n) (hx : x < 18446744073709551616) (e : (A ks).set k (UInt64.ofNat x) = A k') : Byw s0 g bx n t A w k' (W.setCell ⟨g, k, none⟩ (.int .u64 (x : Int))) :=
 ⟨(Below.heap_setCell _ _ _ _ (show s0 ≠ g by omega)).trans h.tree, (Below.heap_setCell _ _ _ _ (show bx ≠ g from fun e => hb e.symm)).trans h.box, by rw [← e]; exact zrb h.own hn k hx, h.old.setCell (p := ⟨g, k, none⟩) hg0 _⟩
theorem Byw.to (h : Byw s0 g bx n t A w ks W) {k' : List Nat} (e : A ks = A k') : Byw s0 g bx n t A w k' W := ⟨h.tree, h.box, by rw [← e]; exact h.own, h.old⟩
theorem ys4 {B : Nat} {α : Type} (f : List α → List Nat) (h1 : s0 < B) (h2 : bx < B) (hw : w.heap.size = s0) : OwnFrom B (fun (pre : List α) W => Byw s0 g bx n t A w (f pre) W) := fun s X Y row h hg hr =>
 ⟨(hg.block s0 (Array.getElem?_eq_some_iff.1 h.tree).1 (fun e => by have := (hr s0 e.symm).1; omega)).trans h.tree,
  (hg.block bx (Array.getElem?_eq_some_iff.1 h.box).1 (fun e => by have := (hr bx e.symm).1; omega)).trans h.box,
  z3n (B := B) (fun _ : List α => Value.slice (some ⟨g, 0, none⟩) n n) (fun s => A (f s)) s X Y row h.own hg hr,
  h.old.grown hg (by have := h.old.size; omega) (fun k hk => by have := (hr k hk).1; omega)⟩
end
theorem yil (bv bb bl n cp b1 o1 c1 b2 o2 c2 b3 o3 c3 m : Nat) (p : Option Addr) (l : List Nd) (v o : Vt) (bal : List UInt64) (w : World) (h : SlE Ene w (.slice p n cp) l) (hm : MayT l) (hl : l.length = n) (hm8 : m ≤ 8) (hv : v.l.length = m) (ho : o.l.length = m) (hb : bal.length = m) (hbal : ∀ k, fn bal k ≤ 1099511627776) (q4 : b1 < w.heap.size) (q5 : b2 < w.heap.size) (q6 : b3 < w.heap.size)
  (t0 : w.heap[bv]? = some (.cells (vo ⟨⟨some ⟨b1, o1, none⟩, m, c1⟩, v.out⟩) 32 (0, 0))) (t1 : w.heap[bb]? = some (.cells (vo ⟨⟨some ⟨b2, o2, none⟩, m, c2⟩, o.out⟩) 32 (0, 0))) (t2 : w.heap[bl]? = some (.cells #[.slice (some ⟨b3, o3, none⟩) m c3] 24 (0, 0)))
  (x1 : w.rangeAt b1 o1 (zan Elt v.l)) (x2 : w.rangeAt b2 o2 (zan Elt o.l)) (x3 : w.rangeAt b3 o3 (zan Enum bal)) :
  Calls Tryz.prog 125 #[.agg (tr ⟨⟨p, n, cp⟩⟩), .func (.func 148) #[] #[.pointer (some ⟨bv, 0, none⟩), .pointer (some ⟨bb, 0, none⟩), .pointer (some ⟨bl, 0, none⟩)]] w fun e w' => ∃ u, e = .returned u ∧ OwnE Enum w' w.heap.size u (zde (zlo l v o bal) n) ∧ Below w.heap.size w w' := by
 have HD := Lib.hid (fun (W : World) (g : Below w.heap.size w W) => z9u 2 w.heap.size bv bb bl b1 o1 c1 b2 o2 c2 b3 o3 c3 m v o bal W g.size (by omega) hv ho hb (Array.getElem?_eq_some_iff.1 t0).1 (Array.getElem?_eq_some_iff.1 t1).1 (Array.getElem?_eq_some_iff.1 t2).1 q4 q5 q6 (zab g t0) (zab g t1) (zab g t2) (zhz g q4 x1) (zhz g q5 x2) (zhz g q6 x3))
 have HF := Lib.hid (fun (r : Rt) (W : World) (g : Below w.heap.size w W) => zfk ⟨p, n, cp⟩ l r W (zac g h))
 have HMt := Lib.hid hm
 have HL := Lib.hid hl
 have HMb := Lib.hid hbal
 have HN : Hid (1 ≤ n ∧ n ≤ 12 ∧ m ≤ 8) := by show _ ∧ _ ∧ _; have := hm.le; have := hm.pos; omega
 have HA : Hid (zde (zlo l v o bal) n = zde (accF l v bal (nwT v o m)) n) := by
  show _ = _
  refine zpr fun i _ => ?_
  show selF _ _ _ = _
  rw [hb]
  exact (yp1 i m).symm
 obtain ⟨A, hA⟩ : ∃ A : List Nat → List UInt64, A = fun ks => zde (accF l v bal ks) n := ⟨_, rfl⟩
 have HAd : Hid (∀ ks, A ks = zde (accF l v bal ks) n) := by show ∀ ks, _ = _; rw [hA]; exact fun _ => rfl
 have HAl : Hid (∀ ks, (A ks).length = n) := by show ∀ ks, _ = _; rw [hA]; exact fun _ => zfn _ _
 obtain ⟨W0, hW0⟩ : ∃ W0, W0 = w.alloc (.cells (tr ⟨⟨p, n, cp⟩⟩) 28) := ⟨_, rfl⟩
 have HB : Hid (Below w.heap.size w W0) := by rw [hW0]; exact below1
 have M0 : Hid (W0.heap[w.heap.size]? = some (.cells (tr ⟨⟨p, n, cp⟩⟩) 28 (0, 0))) := by rw [hW0]; exact heap_alloc_last w _
 have HZ0 : Hid (W0.heap.size = w.heap.size + 1) := by rw [hW0]; exact World.size_alloc _ _
 have HW := Lib.hid hW0
 obtain ⟨ii, hi, hz0, hz1, hz2⟩ := info_parts zyb
 have z0 := (za2 M0.out).1
 dsimp only at z0
 rw [zat] at z0
 have n0 : (0 : Int) ≤ (n : Int) := by omega
 clear hW0 h hm hl hm8 hv ho hb hbal q4 q5 q6 t0 t1 t2 x1 x2 x3 hA
 refine callsIn_wide.1 (callsIn_of_wp_marks (n := 3) Tryz.func125 rfl trivial (wpIn_wide.2 ?_))
 simp only [Tryz.ntmps125, List.size_toArray, List.length_cons, List.length_nil, Nat.reduceAdd, Nat.reduceSub, Array.replicate_succ, Array.replicate_zero, List.push_toArray, List.append_toArray, List.nil_append, List.cons_append]
 go_upto_region 1 with fail
 rw [← HW.out]
 go_wp2_with (at_make; refine wpList_make_full _ rfl _ _ 24 rfl W0.heap.size 30 ii _ 1 Tryz.underlying24 hi hz0 hz1 .i64 .i64 _ _ n rfl rfl rfl rfl (by rw [hz2]; have := HN.out; omega) (by unfold maxLen; have := HN.out; omega) (Nat.le_refl _) ?_; intro wz hown hgrow)
 have BZ : Hid (Below W0.heap.size W0 wz) := (Below.refl _ _).grown hgrow (Nat.le_refl _) (fun k hk => by cases hk)
 have OZ : Hid (OwnE Enum wz W0.heap.size (.slice (some ⟨W0.heap.size, 0, none⟩) n n) (A [])) := by
  have := yhj hown
  rw [← yjj (l := l) (v := v) (bal := bal) n, ← HAd.out []] at this
  exact this
 obtain ⟨W2, hW2⟩ : ∃ W2, W2 = wz.alloc (.cells #[.slice (some ⟨W0.heap.size, 0, none⟩) n n] 24) := ⟨_, rfl⟩
 have hbz : Below wz.heap.size wz W2 := by rw [hW2]; exact below1
 have HZ2 : Hid (W2.heap.size = wz.heap.size + 1) := by rw [hW2]; exact World.size_alloc _ _
 have HSZ : Hid (w.heap.size < W0.heap.size ∧ W0.heap.size < wz.heap.size ∧ wz.heap.size < W2.heap.size) := by
  show _ ∧ _ ∧ _
  have h1 := (OZ.out.lt W0.heap.size rfl).2
  have := HZ0.out
  have := HZ2.out
  omega
 have BY : Hid (Byw w.heap.size W0.heap.size wz.heap.size n ⟨⟨p, n, cp⟩⟩ A w [] W2) :=
  ⟨zab (zad BZ.out hbz) M0.out, by rw [hW2]; exact heap_alloc_last wz _, by rw [← HZ0.out]; exact zah hbz OZ.out, zad HB.out (zad BZ.out hbz)⟩
 have HW2 := Lib.hid hW2
 clear hown hgrow hW2 hbz z0 n0 hi hz0 hz1 hz2 ii
 go_wp2_with fail
 rw [← HW2.out]
 refine (wpIn_wide (n := 3)).1 ?_
 have hD := HD.out W2 BY.out.old
 obtain ⟨g, hg⟩ : ∃ g, g = W0.heap.size := ⟨_, rfl⟩
 obtain ⟨bx, hbx⟩ : ∃ bx, bx = wz.heap.size := ⟨_, rfl⟩
 rw [← hg, ← hbx] at BY HSZ
 rw [← hg, ← hbx]
 clear HW2 BZ OZ HW HB M0 HZ2 HZ0 hg hbx HD
 have HBY := BY.out
 refine wpIn_rangeFunc_ownH (w0 := W2) rfl (by omega) (gf := 148) (lb := #[.pointer (some ⟨bv, 0, none⟩), .pointer (some ⟨bb, 0, none⟩), .pointer (some ⟨bl, 0, none⟩)]) rfl trivial z11
  hD belowK_t (belowK_b (by have := HSZ.out; omega)) (Below.refl _ _) (fun _ => rfl)
  (fun pre W => Byw w.heap.size g bx n ⟨⟨p, n, cp⟩⟩ A w (pre.map Subtype.val) W) (fun _ _ _ => False)
  (ys4 (fun pre : List { x // x ∈ nwT v o m } => pre.map Subtype.val) (by have := HSZ.out; omega) (by have := HSZ.out; omega) rfl) (fun _ _ _ _ _ h _ _ => h)
  HBY (fun (x : { x // x ∈ nwT v o m }) (a' : Act) (W : World) => ∃ b6 : Nat, a' = { tmps := #[.agg (tr ⟨⟨p, n, cp⟩⟩), .func (.func 148) #[] #[.pointer (some ⟨bv, 0, none⟩), .pointer (some ⟨bb, 0, none⟩), .pointer (some ⟨bl, 0, none⟩)], .pointer (some ⟨w.heap.size, 0, none⟩), undef, .slice none 0 0, .pointer (some ⟨bx, 0, none⟩), .pointer (some ⟨b6, 0, none⟩), .int .u64 (fn bal x.1 : Int), undef, .pointer (some ⟨w.heap.size, 0, none⟩), .slice p n cp, .int .i64 (n : Int), .slice (some ⟨g, 0, none⟩) n n, .func (.func 148) #[] #[.pointer (some ⟨bv, 0, none⟩), .pointer (some ⟨bb, 0, none⟩), .pointer (some ⟨bl, 0, none⟩)], .agg (lt (lat v.l x.1)), .int .u64 (fn bal x.1 : Int), undef, undef, undef, undef, undef, undef, undef, undef, undef, undef, undef, undef, undef, undef], defers := [] } ∧ W.heap[b6]? = some (.cells (lt (lat v.l x.1)) 108 (0, 0)))
  (fun x a' s X Y row ⟨b6, e, h⟩ hg hr => ⟨b6, e, (hg.block b6 (Array.getElem?_eq_some_iff.1 h).1 (fun e => by obtain ⟨_, o, ho, hc⟩ := hr b6 e.symm; rw [h] at ho; cases ho; cases hc)).trans h⟩) ?assign ?body ?done ?stop
 case assign =>
  intro lo pre x W K hI hK
  have hs : w.heap.size ≤ W.heap.size := hI.old.size
  gi_wp2
  refine hK _ _ ((KeepsOthers.alloc _ _).from _) ((below1 (w := W)).mono hs) (hI.keep below1 hs) ⟨W.heap.size, rfl, heap_alloc_last W _⟩
 case body =>
  rintro lo pre x a' W hlo ⟨r, hr⟩ hI ⟨b6, rfl, h6⟩ hlen
  obtain ⟨k, hk⟩ := x
  dsimp only at h6
  have hs : w.heap.size ≤ W.heap.size := hI.old.size
  have y1 := (za2 hI.tree).2.1
  have y2 := (zgc h6).2.1
  have HFr := Lib.hid (HF.out (lat v.l k).root W hI.old)
  have HI := Lib.hid hI
  have HP := Lib.hid (show (pre ++ [(⟨k, hk⟩ : { x // x ∈ nwT v o m })]).map Subtype.val = pre.map Subtype.val ++ [k] by rw [List.map_append]; rfl)
  have HLn : Hid ((pre.map Subtype.val).length ≤ 8) := by
   show _ ≤ 8
   rw [List.length_map]
   have := yqo v o m
   have := HN.out
   omega
  have hsm := yut (l := l) (v := v) HMb.out (pre.map Subtype.val)
  have hb1 := HMb.out k
  have HC := Lib.hid (show ∀ i, accF l v bal (pre.map Subtype.val) i ≤ 8796093022208 from fun i => by have h1 := hsm i; have h2 := HLn.out; have h3 := Nat.mul_le_mul_right 1099511627776 h2; omega)
  have HT : Hid ((∃ a : Nat, zay l (lat v.l k).root = (a : Int) ∧ a < n ∧ (A (pre.map Subtype.val)).set a (UInt64.ofNat (accF l v bal (pre.map Subtype.val) a + fn bal k)) = A (pre.map Subtype.val ++ [k]) ∧ fn (A (pre.map Subtype.val)) a = accF l v bal (pre.map Subtype.val) a) ∨ (zay l (lat v.l k).root < 0 ∧ A (pre.map Subtype.val) = A (pre.map Subtype.val ++ [k]))) := by
   show _ ∨ _
   rw [HAd.out, HAd.out, ← HL.out]
   by_cases h0 : 0 ≤ zay l (lat v.l k).root
   ·
    obtain ⟨a, ha⟩ : ∃ a : Nat, zay l (lat v.l k).root = (a : Int) := ⟨_, (Int.toNat_of_nonneg h0).symm⟩
    obtain ⟨h1, h2⟩ := ygm (bal := bal) (v := v) (k := k) HMt.out ha (pre.map Subtype.val)
    exact .inl ⟨a, ha, h1, h2, zoz h1 (by have := HC.out a; omega)⟩
   ·
    exact .inr ⟨by omega, yjp HMt.out (by omega) _⟩
  have HB1 := Lib.hid hb1
  clear hsm hb1 hlen h6
  generalize lat v.l k = X at *
  obtain ⟨z, hz⟩ : ∃ z, z = zay l X.root := ⟨_, rfl⟩
  rw [← hz] at HFr HT
  clear hz
  gi_wp2
  refine ⟨trivial, (callsIn_wide.2 HFr.out).mono ?_⟩
  rintro e W1 ⟨rfl, g1⟩
  have hI1 := HI.out.keep g1 hs
  have HI1 := Lib.hid hI1
  have HG1 := Lib.hid g1
  have HS1 := Lib.hid hs
  have e1 := (zao hI1.box).1
  clear y1 y2 g1 hI hI1 hr hs
  rcases HT.out with ⟨a, rfl, han, hset, hfn⟩ | ⟨hz, hset⟩
  ·
   have c0 : decide ((0 : Int) ≤ (a : Int)) = true := decide_eq_true (by omega)
   have i0 : (0 : Int) ≤ (a : Int) := by omega
   have i1 : (a : Int) < (n : Int) := by omega
   have e2 := zdg HI1.out.own (k := a) (by rw [HAl.out]; exact han)
   have e3 := ziv HI1.out.own (HAl.out _) a
   rw [hfn] at e2
   obtain ⟨s, hs⟩ : ∃ s, s = accF l v bal (pre.map Subtype.val) a := ⟨_, rfl⟩
   obtain ⟨y, hy⟩ : ∃ y, y = fn bal k := ⟨_, rfl⟩
   have h1 := HC.out a
   have h2 := HB1.out
   rw [← hs] at e2 h1
   rw [← hs, ← hy] at hset
   rw [← hy] at h2 ⊢
   have HU : Hid (IntKind.u64.wrap ((s : Int) + (y : Int)) = ((s + y : Nat) : Int)) := by show _ = _; rw [IntKind.wrap_u64]; omega
   have HLt : Hid (s + y < 18446744073709551616) := by show _ < _; omega
   have HSet := Lib.hid hset
   clear hs hy h1 h2 hset hfn HT HC HB1
   gi_wp2
   rw [HU.out]
   have gk : KeepsFrom W2.heap.size W W1 := KeepsFrom.of_grownBy (zbw HG1.out) (fun j e => by cases e)
   refine ⟨gk.trans ((KeepsOthers.setCell _ _ _).from _), (HG1.out.mono HS1.out).setCell (p := ⟨g, a, none⟩) (by show _ ≤ g; have := HSZ.out; omega) _, ?_⟩
   show Byw w.heap.size g bx n ⟨⟨p, n, cp⟩⟩ A w ((pre ++ [(⟨k, hk⟩ : { x // x ∈ nwT v o m })]).map Subtype.val) _
   rw [HP.out]
   exact HI1.out.put (by have := HSZ.out; omega) (by have := HSZ.out; omega) (by have := HSZ.out; omega) (HAl.out _) HLt.out HSet.out
  ·
   have c0 : decide ((0 : Int) ≤ z) = false := decide_eq_false (by omega)
   have HSet := Lib.hid hset
   clear hz hset HT HC HB1
   gi_wp2
   have gk : KeepsFrom W2.heap.size W W1 := KeepsFrom.of_grownBy (zbw HG1.out) (fun j e => by cases e)
   refine ⟨gk, HG1.out.mono HS1.out, ?_⟩
   show Byw w.heap.size g bx n ⟨⟨p, n, cp⟩⟩ A w ((pre ++ [(⟨k, hk⟩ : { x // x ∈ nwT v o m })]).map Subtype.val) _
   rw [HP.out]
   exact HI1.out.to HSet.out
 case done =>
  intro D ys W hD hys hI hK
  have e1 := (zao hI.box).1
  have HI := Lib.hid hI
  have HKD := Lib.hid hK
  have HDD : Hid (w.heap.size ≤ D) := by show _ ≤ _; have := HSZ.out; omega
  have HR : Hid (zde (zlo l v o bal) n = A (ys.map Subtype.val)) := by show _ = _; rw [HA.out, hys, HAd.out]
  clear hI hK hys hD
  go_wp2_with fail
  refine zkc (v := .slice (some ⟨g, 0, none⟩) n n) HKD.out ⟨by simp [results, Tryz.results125, go_sem], _, rfl, ?_, zeh HKD.out HI.out.old HDD.out⟩
  rw [HR.out]
  exact zbi (z3n (B := 0) (fun _ : List Unit => Value.slice (some ⟨g, 0, none⟩) n n) (fun _ => A (ys.map Subtype.val)) [] _ _ _ HI.out.own (grownBy_putObj' W D _) (fun r e => by cases e; exact ⟨Nat.zero_le _, _, HKD.out, rfl⟩)) (Nat.le_succ _)
 case stop =>
  intro D c pre W _ _ h
  exact h.elim
theorem zmu : ∀ args w, (callFunc 125 args).run Tryz.prog w = .ok (.enter 125 args) w := zbb Tryz.func125 (by kernel_rfl) (by kernel_rfl)
end
theorem ygg {v : Vt} {n : Nat} (hl : v.l.length = n) (h1 : 1 ≤ n) (h8 : n ≤ 8) (h : ∀ q, q < n → okAt v q = true) : mayV v = decide (clrU v.out.toNat n = 0) := by
 rw [Bool.eq_iff_iff, decide_eq_true_iff, zct, yj3, hl]
 constructor
 ·
  rintro ⟨_, _, h3⟩ i hi
  by_cases h64 : i < 64
  ·
   have := (zd9.1 (h3 i h64)).1
   rw [hl] at this
   cases e : v.out.toNat.testBit i
   ·
    rfl
   ·
    have := this e; omega
  ·
   exact Nat.testBit_lt_two_pow (Nat.lt_of_lt_of_le v.out.toNat_lt (Nat.pow_le_pow_right (by omega) (by omega)))
 ·
  intro h3
  refine ⟨h1, h8, fun i hi => ?_⟩
  by_cases hin : i < n
  ·
   exact h i hin
  ·
   refine zd9.2 ⟨fun e => ?_, fun e => by omega⟩
   have e' : v.out.toNat.testBit i = true := e
   rw [h3 i (by omega)] at e'
   cases e'
theorem yhw (p : Option Addr) (n cp : Nat) (v : Vt) (w : World) (h : SlE Elt w (.slice p n cp) v.l) (hl : v.l.length = n) :
  Calls Tryz.prog 141 #[.agg (vo ⟨⟨p, n, cp⟩, v.out⟩)] w fun e w' => e = .returned (.bool (mayV v)) ∧ Below w.heap.size w w' := by
 obtain ⟨W0, hW0⟩ : ∃ W0, W0 = w.alloc (.cells (vo ⟨⟨p, n, cp⟩, v.out⟩) 32) := ⟨_, rfl⟩
 have A : Hid (Vw w W0 w.heap.size ⟨p, n, cp⟩ v) := by rw [hW0]; exact yv5 h
 have HW := Lib.hid hW0
 have HL := Lib.hid hl
 have HF := Lib.hid (ygi (n : Int) W0)
 have HO : Hid (∀ (s : SlV) (j : Nat) (hj : j < 64) W, Calls Tryz.prog 145 #[.agg (vo ⟨s, v.out⟩), .int .i64 (j : Int)] W fun e w' => e = .returned (.bool (hasB v.out j)) ∧ Below W.heap.size W w') := fun s j hj W => yif s v.out hj W
 obtain ⟨f, hf⟩ : ∃ f, f = zjb (n : Int) := ⟨_, rfl⟩
 rw [← hf] at HF
 obtain ⟨r, hr⟩ : ∃ r, r = mayV v := ⟨_, rfl⟩
 rw [← hr]
 have HR := Lib.hid hr
 have z0 := A.out.z0
 rw [zat] at z0
 clear hW0 h hl hr
 cases f
 ·
  have hR : Hid (r = false) := by
   show r = false
   rw [HR.out, ← Bool.not_eq_true]
   intro e
   have h1 := (zct.1 e).1
   have h2 := (zct.1 e).2.1
   rw [HL.out] at h1 h2
   exact of_decide_eq_false hf.symm (by omega)
  clear hf
  go_enter Tryz.func141, Tryz.ntmps141
  go_upto_region 1 with fail
  rw [← HW.out]
  go_wp2_with fail
  refine HF.out.mono ?_
  rintro e w1 ⟨rfl, g⟩
  go_wp2_with fail
  go_ret
  exact ⟨by rw [hR.out]; first | done | rfl, zad A.out.g g⟩
 ·
  have hf' : 1 ≤ (n : Int) ∧ (n : Int) ≤ 8 := of_decide_eq_true hf.symm
  have H1 : Hid (1 ≤ n ∧ n ≤ 8) := by show _ ∧ _; omega
  clear hf hf'
  obtain ⟨M, hM⟩ : ∃ M, M = (v.out.toNat : Int) := ⟨_, rfl⟩
  have zo := A.out.zo
  have HMz : Hid (M = (clrU v.out.toNat 0 : Int)) := by show _ = _; rw [hM, ykt]
  have HMo := Lib.hid hM
  rw [← hM] at zo
  clear hM
  go_enter Tryz.func141, Tryz.ntmps141
  go_upto_region 1 with fail
  rw [← HW.out]
  go_wp2_with fail
  refine HF.out.mono ?_
  rintro e w1 ⟨rfl, g⟩
  replace A := Lib.hid (A.out.keep g)
  clear g z0 zo HF
  have zo := A.out.zo
  rw [← HMo.out] at zo
  have z0 := A.out.z0
  rw [zat] at z0
  go_wp2_with fail
  clear z0 zo
  go_loopw [3, 17] (fun m i wr => ∃ j : Nat, j ≤ n ∧ i = .int .i64 (j : Int) ∧ m = .int .u64 (clrU v.out.toNat j : Int) ∧ (∀ q, q < j → okAt v q = true) ∧ Vw w wr w.heap.size ⟨p, n, cp⟩ v) (fun _ i _ => n - (intOf i).toNat)
  case atStart => exact ⟨0, Nat.zero_le _, rfl, by rw [HMz.out], fun q hq => absurd hq (Nat.not_lt_zero _), A.out⟩
  case round =>
   obtain ⟨j, hj, rfl, rfl, hx, hA⟩ := hrel
   have HX := Lib.hid hx
   replace A := Lib.hid hA
   clear hx hA
   by_cases hlt : j < n
   ·
    have i0 : (0 : Int) ≤ (j : Int) := by omega
    have i1 : (j : Int) < (n : Int) := by omega
    have u1 : (j : Int) + 1 < 10000 := by have := H1.out; omega
    have H64 : Hid (j < 64) := by have := H1.out; show j < 64; omega
    have HLT := Lib.hid hlt
    obtain ⟨b1, o1, rfl, _, x1⟩ := zk5 A.out.s (by rw [HL.out]; omega)
    have y1 := zjp x1 (i := j) (by rw [HL.out]; exact hlt)
    have hjl : j < v.l.length := by rw [HL.out]; exact hlt
    obtain ⟨b, hb⟩ : ∃ b, b = hasB v.out j := ⟨_, rfl⟩
    have hk : okAt v j = (if b = true ∨ (lat v.l j).has = false then decide (lat v.l j = zlt) else true) := by
     unfold okAt
     rw [if_neg (fun e => e.2 hjl), ← hb]
     by_cases e : b = true ∨ (lat v.l j).has = false
     ·
      rw [if_pos ⟨hjl, e⟩, if_pos e]
     ·
      rw [if_neg (fun e2 => e e2.2), if_neg e]
    have HC : Hid (∀ s W, Calls Tryz.prog 145 #[.agg (vo ⟨s, v.out⟩), .int .i64 (j : Int)] W fun e w' => e = .returned (.bool b) ∧ Below W.heap.size W w') := fun s W => by rw [hb]; exact HO.out s j H64.out W
    have HNo : Hid (okAt v j = false → r = false) := fun e => by
     rw [HR.out, ← Bool.not_eq_true]
     intro e2
     rw [(zct.1 e2).2.2 j H64.out] at e
     cases e
    obtain ⟨c1, hc1⟩ : ∃ c, c = clrU v.out.toNat j := ⟨_, rfl⟩
    obtain ⟨c2, hc2⟩ : ∃ c, c = clrU v.out.toNat (j + 1) := ⟨_, rfl⟩
    obtain ⟨B, hB⟩ : ∃ B, B = (bitN (j : Int) : Int) := ⟨_, rfl⟩
    have a1 : bits .andNot .u64 (c1 : Int) B = (c2 : Int) := by rw [hc1, hc2, hB]; exact ykx v.out.toNat_lt H64.out
    have HSb := Lib.hid (fun W => zna (j : Int) W)
    rw [← hB] at HSb
    rw [← hc1]
    have HC2 := Lib.hid hc2
    generalize lat v.l j = x at *
    obtain ⟨hs, hhs⟩ : ∃ hs, hs = x.has := ⟨_, rfl⟩
    rw [← hhs] at hk
    have HK := Lib.hid hk
    have HHs := Lib.hid hhs
    clear x1 hk hjl hb hlt hc1 hc2 hB hhs
    go_upto_region 7 with fail
    obtain ⟨w2, hw2⟩ : ∃ w2, w2 = wr.alloc (.cells (lt x) 108) := ⟨_, rfl⟩
    rw [← hw2]
    have hx2 : w2.heap[wr.heap.size]? = some (.cells (lt x) 108 (0, 0)) := by rw [hw2]; exact heap_alloc_last wr _
    have X2 := Lib.hid hx2
    replace A := Lib.hid (A.out.keep (W' := w2) (by rw [hw2]; exact below1))
    have z1 := A.out.z1
    obtain ⟨q0, q1, q2, q3, q4⟩ := zgc hx2
    rw [← HHs.out] at q0
    clear hw2 hx2 y1
    by_cases hz : x = zlt
    ·
     have t1 : decide (x = zlt) = true := decide_eq_true hz
     have HT : Hid (okAt v j = true) := by show _ = _; rw [HK.out, decide_eq_true hz]; split <;> rfl
     clear hz
     cases hs
     ·
      go_wp2_with fail
      refine (HSb.out _).mono ?_
      rintro e w4 ⟨rfl, g⟩
      replace A := Lib.hid (A.out.keep g)
      clear g
      go_wp2_with fail
      go_roundw
      case rel => exact ⟨j + 1, HLT.out, by go_num, by rw [HC2.out], (fun q hq => by
       rcases Nat.lt_succ_iff_lt_or_eq.1 hq with h | rfl
       ·
        exact HX.out q h
       ·
        exact HT.out), A.out⟩
      case measure => simp [intOf]; have := HLT.out; omega
     ·
      cases b
      ·
       go_wp2_with fail
       refine (HC.out _ _).mono ?_
       rintro e w3 ⟨rfl, g⟩
       replace A := Lib.hid (A.out.keep g)
       obtain ⟨q0, q1, q2, q3, q4⟩ := zgc (zab g X2.out)
       clear g z1
       go_wp2_with fail
       refine (HSb.out _).mono ?_
       rintro e w4 ⟨rfl, g⟩
       replace A := Lib.hid (A.out.keep g)
       clear g
       go_wp2_with fail
       go_roundw
       case rel => exact ⟨j + 1, HLT.out, by go_num, by rw [HC2.out], (fun q hq => by
        rcases Nat.lt_succ_iff_lt_or_eq.1 hq with h | rfl
        ·
         exact HX.out q h
        ·
         exact HT.out), A.out⟩
       case measure => simp [intOf]; have := HLT.out; omega
      ·
       go_wp2_with fail
       refine (HC.out _ _).mono ?_
       rintro e w3 ⟨rfl, g⟩
       replace A := Lib.hid (A.out.keep g)
       obtain ⟨q0, q1, q2, q3, q4⟩ := zgc (zab g X2.out)
       clear g z1
       go_wp2_with fail
       refine (HSb.out _).mono ?_
       rintro e w4 ⟨rfl, g⟩
       replace A := Lib.hid (A.out.keep g)
       clear g
       go_wp2_with fail
       go_roundw
       case rel => exact ⟨j + 1, HLT.out, by go_num, by rw [HC2.out], (fun q hq => by
        rcases Nat.lt_succ_iff_lt_or_eq.1 hq with h | rfl
        ·
         exact HX.out q h
        ·
         exact HT.out), A.out⟩
       case measure => simp [intOf]; have := HLT.out; omega
    ·
     have t1 : decide (x = zlt) = false := decide_eq_false hz
     cases hs
     ·
      have HF : Hid (r = false) := HNo.out (by rw [HK.out, if_pos (.inr rfl), t1])
      clear hz
      go_wp2_with fail
      go_ret
      exact ⟨by rw [HF.out]; first | done | rfl, A.out.g⟩
     ·
      cases b
      ·
       have HT : Hid (okAt v j = true) := by show _ = _; rw [HK.out, if_neg (by simp)]
       clear hz
       go_wp2_with fail
       refine (HC.out _ _).mono ?_
       rintro e w3 ⟨rfl, g⟩
       replace A := Lib.hid (A.out.keep g)
       obtain ⟨q0, q1, q2, q3, q4⟩ := zgc (zab g X2.out)
       clear g z1
       go_wp2_with fail
       refine (HSb.out _).mono ?_
       rintro e w4 ⟨rfl, g⟩
       replace A := Lib.hid (A.out.keep g)
       clear g
       go_wp2_with fail
       go_roundw
       case rel => exact ⟨j + 1, HLT.out, by go_num, by rw [HC2.out], (fun q hq => by
        rcases Nat.lt_succ_iff_lt_or_eq.1 hq with h | rfl
        ·
         exact HX.out q h
        ·
         exact HT.out), A.out⟩
       case measure => simp [intOf]; have := HLT.out; omega
      ·
       have HF : Hid (r = false) := HNo.out (by rw [HK.out, if_pos (.inl rfl), t1])
       clear hz
       go_wp2_with fail
       refine (HC.out _ _).mono ?_
       rintro e w3 ⟨rfl, g⟩
       replace A := Lib.hid (A.out.keep g)
       obtain ⟨q0, q1, q2, q3, q4⟩ := zgc (zab g X2.out)
       clear g z1
       go_wp2_with fail
       go_ret
       exact ⟨by rw [HF.out]; first | done | rfl, A.out.g⟩
   ·
    obtain rfl : j = n := by omega
    have hR : Hid (r = decide (clrU v.out.toNat j = 0)) := by show _ = _; rw [HR.out]; exact ygg HL.out H1.out.1 H1.out.2 HX.out
    obtain ⟨c, hc⟩ : ∃ c, c = clrU v.out.toNat j := ⟨_, rfl⟩
    rw [← hc] at hR ⊢
    have t1 : ((c : Int) == 0) = decide (c = 0) := by rw [Bool.eq_iff_iff, beq_iff_eq, decide_eq_true_iff]; omega
    have t2 : (c == 0) = decide (c = 0) := by rw [Bool.eq_iff_iff, beq_iff_eq, decide_eq_true_iff]
    have HRR := Lib.hid hR.out
    clear hlt hc hR
    go_wp2_with fail
    go_ret
    exact ⟨by rw [HRR.out]; first | done | rfl | simp, A.out.g⟩
theorem z4n (s : SlV) (v : Vt) (w : World) (h : SlE Elt w (sv s) v.l) :
  Calls Tryz.prog 141 #[.agg (vo ⟨s, v.out⟩)] w fun e w' => e = .returned (.bool (mayV v)) ∧ Below w.heap.size w w' := by
 have hl := ziu h
 obtain ⟨p, n, cp⟩ := s
 dsimp only at hl
 exact yhw p n cp v w h hl
theorem yhr (p q r : Option Addr) (n cp m cq k cr : Nat) (l : List Nd) (v : Vt) (bal : List UInt64) (w : World) (h : SlE Ene w (.slice p n cp) l) (h1 : SlE Elt w (.slice q m cq) v.l) (h2 : SlE Enum w (.slice r k cr) bal) (hv : v.l.length = m) (hb : bal.length = k) :
  Calls Tryz.prog 124 #[.agg (tr ⟨⟨p, n, cp⟩⟩), .agg (vo ⟨⟨q, m, cq⟩, v.out⟩), .slice r k cr] w fun e w' => e = .returned (.bool (fitB l v bal)) ∧ Below w.heap.size w w' := by
 have HA := Lib.hid (fun W (g : Below w.heap.size w W) => ziy ⟨p, n, cp⟩ l W (zac g h))
 have HV := Lib.hid (fun W (g : Below w.heap.size w W) => z4n ⟨q, m, cq⟩ v W (zac g h1))
 have HC := Lib.hid (fun W (g : Below w.heap.size w W) => zq0 (.slice r k cr) bal W (zac g h2))
 obtain ⟨a, ha⟩ : ∃ a, a = decide (MayT l) := ⟨_, rfl⟩
 obtain ⟨b, hb'⟩ : ∃ b, b = mayV v := ⟨_, rfl⟩
 obtain ⟨c, hc⟩ : ∃ c, c = mayB bal := ⟨_, rfl⟩
 obtain ⟨x, hx⟩ : ∃ x, x = ((m : Int) == (k : Int)) := ⟨_, rfl⟩
 obtain ⟨z, hz⟩ : ∃ z, z = fitB l v bal := ⟨_, rfl⟩
 have HZ : Hid (z = (a && (b && (c && x)))) := by
  show z = _
  rw [hz, ha, hb', hc, hx]
  unfold fitB
  have : decide (v.l.length = bal.length) = ((m : Int) == (k : Int)) := by rw [Bool.eq_iff_iff, decide_eq_true_iff, beq_iff_eq, hv, hb]; omega
  rw [this]
 rw [← hz]
 rw [← ha] at HA
 rw [← hb'] at HV
 rw [← hc] at HC
 have tx : ((m : Int) == (k : Int)) = x := hx.symm
 obtain ⟨W0, hW0⟩ : ∃ W0, W0 = (w.alloc (.cells (tr ⟨⟨p, n, cp⟩⟩) 28)).alloc (.cells (vo ⟨⟨q, m, cq⟩, v.out⟩) 32) := ⟨_, rfl⟩
 obtain ⟨hB, k0, k1, hz0⟩ := zd0 w _ _ _ _ W0 hW0
 have HB := Lib.hid hB
 have HW := Lib.hid hW0
 have K0 := Lib.hid k0
 have K1 := Lib.hid k1
 clear hW0 h h1 h2 hv hb hB k0 k1 hz0 ha hb' hc hx hz
 go_enter Tryz.func124, Tryz.ntmps124
 have z1 := (za2 K0.out).2.1
 go_wp2_with fail
 rw [← HW.out]
 go_wp2_with fail
 refine (HA.out W0 HB.out).mono ?_
 rintro e w1 ⟨rfl, g1⟩
 have G1 := Lib.hid (zad HB.out g1)
 have N1 := Lib.hid (zab g1 K1.out)
 clear g1 z1
 have y1 := (zbn N1.out).2.2.1
 cases a
 ·
  have hX : Hid (z = false) := HZ.out
  go_wp2_with fail
  go_ret
  exact ⟨by rw [hX.out]; first | done | rfl, G1.out⟩
 ·
  go_wp2_with fail
  refine (HV.out w1 G1.out).mono ?_
  rintro e w2 ⟨rfl, g2⟩
  have G2 := Lib.hid (zad G1.out g2)
  have N2 := Lib.hid (zab g2 N1.out)
  clear g2 y1
  cases b
  ·
   have hX : Hid (z = false) := HZ.out
   go_wp2_with fail
   go_ret
   exact ⟨by rw [hX.out]; first | done | rfl, G2.out⟩
  ·
   go_wp2_with fail
   refine (HC.out w2 G2.out).mono ?_
   rintro e w3 ⟨rfl, g3⟩
   have G3 := Lib.hid (zad G2.out g3)
   have N3 := Lib.hid (zab g3 N2.out)
   clear g3
   have y0 := (zbn N3.out).1
   dsimp only at y0
   rw [zat] at y0
   cases c
   ·
    have hX : Hid (z = false) := HZ.out
    go_wp2_with fail
    go_ret
    exact ⟨by rw [hX.out]; first | done | rfl, G3.out⟩
   ·
    have hX : Hid (z = x) := HZ.out
    go_wp2_with fail
    go_ret
    exact ⟨by rw [hX.out]; first | done | rfl, G3.out⟩
theorem ygj (s t : SlV) (u : Value) (l : List Nd) (v : Vt) (bal : List UInt64) (w : World) (h : SlE Ene w (sv s) l) (h1 : SlE Elt w (sv t) v.l) (h2 : SlE Enum w u bal) :
  Calls Tryz.prog 124 #[.agg (tr ⟨s⟩), .agg (vo ⟨t, v.out⟩), u] w fun e w' => e = .returned (.bool (fitB l v bal)) ∧ Below w.heap.size w w' := by
 have hv := ziu h1
 obtain ⟨p, n, cp⟩ := s
 obtain ⟨q, m, cq⟩ := t
 dsimp only at hv
 obtain ⟨r, cr, rfl, _⟩ := zaj h2
 exact yhr p q r n cp m cq _ cr l v bal w h h1 h2 hv rfl
theorem zkg {fn : Func} {t u v : Tmp} (h : fn.results = #[.tmp t, .tmp u, .tmp v]) (tmps : Array Value) (P : Program) (w : World) :
  (results fn tmps).run P w = .ok (.tuple #[tmps.getD t undef, tmps.getD u undef, tmps.getD v undef]) w := by
 simp [results, h]
def ysc (a b : List UInt64) (ok : Bool) (w : World) (e : Ending) (w' : World) : Prop := ∃ u v, e = .returned (.tuple #[u, v, .bool ok]) ∧ SlE Enum w' u a ∧ SlE Enum w' v b ∧ Below w.heap.size w w'
theorem yv1 {w W : World} {s : SlV} {v : Vt} (g : Below w.heap.size w W) (h : SlE Elt W (sv s) v.l) : Vw w (W.alloc (.cells (vo ⟨s, v.out⟩) 32)) W.heap.size s v := ⟨heap_alloc_last W _, zac below1 h, zad g below1⟩
end Go.Proofs.YtmihlihlpdkdcaaGreat
