import Derived.OwnWalk
import Derived.Test.YtkalofboioffiaaGreatT34
import Derived.Test.YtkalofboioffiaaGreatT28
namespace Go.Proofs.YtkalofboioffiaaGreat
open Go.RowKit
set_option maxRecDepth 200000
set_option maxHeartbeats 64000000
def accF (l : List Nd) (v : Vt) (bal : List UInt64) (ks : List Nat) (i : Nat) : Nat := (ks.map fun k => if (lat v.l k).root = (nd l i).root then fn bal k else 0).sum
section
variable {l : List Nd} {v o : Vt} {bal : List UInt64}
theorem yej (i : Nat) : accF l v bal [] i = 0 := rfl
theorem zlo (ks : List Nat) (k i : Nat) : accF l v bal (ks ++ [k]) i = accF l v bal ks i + (if (lat v.l k).root = (nd l i).root then fn bal k else 0) := by
 unfold accF
 rw [List.map_append, List.sum_append]
 simp
theorem yh3 {B : Nat} (h : ∀ k, fn bal k ≤ B) (ks : List Nat) (i : Nat) : accF l v bal ks i ≤ ks.length * B := by
 unfold accF
 induction ks with
 | nil => simp
 | cons k ks ih =>
  rw [List.map_cons, List.sum_cons, List.length_cons, Nat.add_mul, Nat.one_mul]
  have := h k
  split <;> omega
theorem yix {k : Nat} (h : bal.length ≤ k) : fn bal k = 0 := by
 unfold fn
 rw [List.getD_eq_getElem?_getD, List.getElem?_eq_none h]
 rfl
theorem yen (h : mayB bal = true) (k : Nat) : fn bal k ≤ 1099511627776 := by
 by_cases hk : k < bal.length
 ·
  exact (zb7.1 h).2.2 k hk
 ·
  rw [yix (by omega)]; omega
theorem yei (i n : Nat) : accF l v bal ((List.range n).filter fun k => (lat v.l k).has && decide (lat v.l k ≠ lat o.l k)) i = selF (newB l v o i) (fn bal) n := by
 induction n with
 | zero => rfl
 | succ n ih =>
  rw [List.range_succ, List.filter_append]
  cases hn : ((lat v.l n).has && decide (lat v.l n ≠ lat o.l n))
  ·
   have e : List.filter (fun k => (lat v.l k).has && decide (lat v.l k ≠ lat o.l k)) [n] = [] := by rw [List.filter_cons, if_neg (by rw [hn]; exact Bool.false_ne_true)]; rfl
   rw [e, List.append_nil, ih]
   have e2 : newB l v o i n = false := by
    unfold newB forB
    rw [Bool.and_assoc, Bool.and_comm (decide ((lat v.l n).root = (nd l i).root)), ← Bool.and_assoc, hn, Bool.false_and]
   rw [zxk e2]
  ·
   have e : List.filter (fun k => (lat v.l k).has && decide (lat v.l k ≠ lat o.l k)) [n] = [n] := by rw [List.filter_cons, if_pos hn]; rfl
   rw [e, zlo, ih]
   have e2 : newB l v o i n = decide ((lat v.l n).root = (nd l i).root) := by
    unfold newB forB
    rw [Bool.and_assoc, Bool.and_comm (decide ((lat v.l n).root = (nd l i).root)), ← Bool.and_assoc, hn, Bool.true_and]
   by_cases hr : (lat v.l n).root = (nd l i).root
   ·
    rw [if_pos hr, zzq (by rw [e2]; exact decide_eq_true hr)]
   ·
    rw [if_neg hr, zxk (by rw [e2]; exact decide_eq_false hr), Nat.add_zero]
theorem zkj {f g : Nat → Nat} : ∀ {n : Nat}, (∀ i, i < n → f i = g i) → zcd f n = zcd g n
 | 0, _ => rfl
 | n + 1, h => by rw [zjg, zjg, zkj (fun i hi => h i (by omega)), h n (by omega)]
theorem ybm {f g : Nat → Nat} {n a : Nat} (h : ∀ i, i < n → i ≠ a → g i = f i) : (zcd f n).set a (UInt64.ofNat (g a)) = zcd g n := by
 refine List.ext_getElem? fun i => ?_
 by_cases hi : i < n
 ·
  have e1 : (zcd f n)[i]? = some (UInt64.ofNat (f i)) := by unfold zcd; simp [hi]
  have e2 : (zcd g n)[i]? = some (UInt64.ofNat (g i)) := by unfold zcd; simp [hi]
  rw [e2, List.getElem?_set]
  by_cases ha : a = i
  ·
   subst ha
   rw [if_pos rfl, if_pos (by rw [zdg]; exact hi)]
  ·
   rw [if_neg ha, e1, h i hi (fun e => ha e.symm)]
 ·
  rw [List.getElem?_eq_none (by rw [List.length_set, zdg]; omega), List.getElem?_eq_none (by rw [zdg]; omega)]
theorem z3q (hm : MayT l) {k a : Nat} (ha : zaz l (lat v.l k).root = (a : Int)) (ks : List Nat) : a < l.length ∧ (zcd (accF l v bal ks) l.length).set a (UInt64.ofNat (accF l v bal ks a + fn bal k)) = zcd (accF l v bal (ks ++ [k])) l.length := by
 rcases zcs hm (lat v.l k).root with ⟨i, hi, he, hr⟩ | ⟨he, _⟩
 ·
  rw [ha] at he
  have e : a = i := by omega
  subst e
  refine ⟨hi, ?_⟩
  have h1 : accF l v bal (ks ++ [k]) a = accF l v bal ks a + fn bal k := by rw [zlo, if_pos hr.symm]
  rw [← h1]
  refine ybm fun j hj hne => ?_
  rw [zlo, if_neg, Nat.add_zero]
  intro e2
  have h3 := z5c hm hj
  rw [← e2, ha] at h3
  omega
 ·
  rw [ha] at he; omega
theorem z9b (hm : MayT l) {k : Nat} (ha : zaz l (lat v.l k).root < 0) (ks : List Nat) : zcd (accF l v bal ks) l.length = zcd (accF l v bal (ks ++ [k])) l.length := by
 rcases zcs hm (lat v.l k).root with ⟨i, hi, he, hr⟩ | ⟨_, hn⟩
 ·
  omega
 ·
  refine zkj fun i hi => ?_
  rw [zlo, if_neg (fun e => hn i hi e.symm), Nat.add_zero]
theorem z9c (n : Nat) : zcd (accF l v bal []) n = List.replicate n 0 := by
 refine List.ext_getElem? fun i => ?_
 by_cases hi : i < n
 ·
  have e1 : (zcd (accF l v bal []) n)[i]? = some (UInt64.ofNat 0) := by unfold zcd; simp [hi, yej]
  rw [e1]; simp [hi]
 ·
  rw [List.getElem?_eq_none (by rw [zdg]; omega), List.getElem?_eq_none (by simp; omega)]
end
theorem ycn (b : List UInt64) (x : UInt64) (h : Nat) : zaq Enum (b.set h x) = (zaq Enum b).set h (num x) := by
 induction b generalizing h with
 | nil => rfl
 | cons y b ih => cases h with
  | zero => rfl
  | succ h => show num y :: zaq Enum (b.set h x) = _; rw [ih]; rfl
theorem zy8 {w : World} {base g n cap : Nat} {b : List UInt64} (h : OwnE Enum w base (.slice (some ⟨g, 0, none⟩) n cap) b) (hn : b.length = n) (k : Nat) {x : Nat} (hx : x < 18446744073709551616) : OwnE Enum (w.setCell ⟨g, k, none⟩ (.int .u64 (x : Int))) base (.slice (some ⟨g, 0, none⟩) n cap) (b.set k (UInt64.ofNat x)) := by
 subst hn
 unfold OwnE at h ⊢
 rw [ycn, List.length_set, z6n hx]
 exact (World.ownsRow.stored h k (.int .u64 (x : Int))).1
theorem znw {w : World} {base g n cap : Nat} {b : List UInt64} (h : OwnE Enum w base (.slice (some ⟨g, 0, none⟩) n cap) b) (hn : b.length = n) (k : Nat) : w.frozen? ⟨g, k, none⟩ = false := by
 subst hn; exact World.ownsRow.frozenAt h k
theorem zfp {w : World} {base g n cap : Nat} {b : List UInt64} (h : OwnE Enum w base (.slice (some ⟨g, 0, none⟩) n cap) b) {k : Nat} (hk : k < b.length) : w.cell? ⟨g, k, none⟩ = some (.int .u64 (fn b k : Int)) := by
 obtain ⟨b1, o1, e, _, x⟩ := zcm (za2 h) (by omega)
 injection e with e
 injection e with e1 e2
 subst e1 e2
 have := zbt x hk
 rwa [Nat.zero_add] at this
theorem z63 {w : World} {base : Nat} {v : Value} {b : List UInt64} {n : Nat} (h : OwnE Enum w base v b) (hn : b.length = n) (h0 : 0 < n) : ∃ g cap, v = .slice (some ⟨g, 0, none⟩) n cap ∧ base ≤ g := by
 subst hn
 rcases h.2 with ⟨_, e⟩ | ⟨g, cap, cur, e, hb, _⟩
 ·
  omega
 ·
  exact ⟨g, cap, e, hb⟩
theorem z85 {w : World} {base : Nat} {v : Value} {n : Nat} (h : w.ownsRow base 27 1 v n (madeCells (num 0).cells (n * 1)).toList) : OwnE Enum w base v (List.replicate n 0) := by
 have e : (madeCells (num 0).cells (n * 1)).toList = zaq Enum (List.replicate n 0) := by
  refine List.ext_getElem? fun i => ?_
  have h1 : (zaq Enum (List.replicate n 0)).length = n := by rw [zbl, List.length_replicate]; show n * 1 = n; omega
  by_cases hi : i < n
  ·
   have h2 := zhh Enum (List.replicate n 0) i 0 (by simpa using hi) (by decide)
   rw [show i * Enum.n + 0 = i by show i * 1 + 0 = i; omega] at h2
   rw [h2, List.getElem_replicate, Array.getElem?_toList]
   have h3 : i < (madeCells (num 0).cells (n * 1)).size := by rw [size_madeCells]; omega
   rw [Array.getElem?_eq_getElem h3]
   simp [madeCells, num, Value.cells, Enum]
   rw [Nat.mod_one]
   rfl
  ·
   rw [List.getElem?_eq_none (by rw [Array.length_toList, size_madeCells]; omega), List.getElem?_eq_none (by omega)]
 unfold OwnE
 rw [List.length_replicate, ← e]
 exact h
section
open Go.Shelf
open Go.RowKit Go.Shelf
attribute [local go_sem] Oper.semAt_some
@[local go_sem ↓ high] theorem yd6 {P : Program} (l : Option Nat) (ρ : Operand → Value) (o : Oper) (w : World) (h : ∀ c, o.op ≠ .defer c) : (Oper.semAt l ρ o).run P w = (execOp ρ o).run P w := by rw [Oper.semAt_eq l ρ o h]
structure Byw (s0 g bx n : Nat) (t : Tr) (A : List Nat → List UInt64) (w : World) (ks : List Nat) (W : World) : Prop where
 tree : W.heap[s0]? = some (.cells (tr t) 24 (0, 0))
 box : W.heap[bx]? = some (.cells #[.slice (some ⟨g, 0, none⟩) n n] 25 (0, 0))
 own : OwnE Enum W (s0 + 1) (.slice (some ⟨g, 0, none⟩) n n) (A ks)
 old : Below s0 w W
section
variable {s0 g bx n : Nat} {t : Tr} {A : List Nat → List UInt64} {w W W' : World} {ks : List Nat}
theorem Byw.keep (h : Byw s0 g bx n t A w ks W) (k : Below W.heap.size W W') (hs : s0 ≤ W.heap.size) : Byw s0 g bx n t A w ks W' := ⟨zac k h.tree, zac k h.box, za5 k h.own, h.old.trans (k.mono hs)⟩
theorem Byw.put (h : Byw s0 g bx n t A w ks W) (hg : s0 + 1 ≤ g) (hb : g ≠ bx) (hg0 : s0 ≤ g) {k' : List Nat} {k x : Nat} (hn : (A ks).length = n) (hx : x < 18446744073709551616) (e : (A ks).set k (UInt64.ofNat x) = A k') : Byw s0 g bx n t A w k' (W.setCell ⟨g, k, none⟩ (.int .u64 (x : Int))) :=
 ⟨(Below.heap_setCell _ _ _ _ (show s0 ≠ g by omega)).trans h.tree, (Below.heap_setCell _ _ _ _ (show bx ≠ g from fun e => hb e.symm)).trans h.box, by rw [← e]; exact zy8 h.own hn k hx, h.old.setCell (p := ⟨g, k, none⟩) hg0 _⟩
theorem Byw.to (h : Byw s0 g bx n t A w ks W) {k' : List Nat} (e : A ks = A k') : Byw s0 g bx n t A w k' W := ⟨h.tree, h.box, by rw [← e]; exact h.own, h.old⟩
theorem yep {B : Nat} {α : Type} (f : List α → List Nat) (h1 : s0 < B) (h2 : bx < B) (hw : w.heap.size = s0) : OwnFrom B (fun (pre : List α) W => Byw s0 g bx n t A w (f pre) W) := fun s X Y row h hg hr =>
 ⟨(hg.block s0 (Array.getElem?_eq_some_iff.1 h.tree).1 (fun e => by have := (hr s0 e.symm).1; omega)).trans h.tree,
  (hg.block bx (Array.getElem?_eq_some_iff.1 h.box).1 (fun e => by have := (hr bx e.symm).1; omega)).trans h.box,
  zwy (B := B) (fun _ : List α => Value.slice (some ⟨g, 0, none⟩) n n) (fun s => A (f s)) s X Y row h.own hg hr,
  h.old.grown hg (by have := h.old.size; omega) (fun k hk => by have := (hr k hk).1; omega)⟩
end
theorem z9s (bv bb bl n cp b1 o1 c1 b2 o2 c2 b3 o3 c3 m : Nat) (p : Option Addr) (l : List Nd) (v o : Vt) (bal : List UInt64) (w : World) (h : SlE Ene w (.slice p n cp) l) (hm : MayT l) (hl : l.length = n) (hm8 : m ≤ 8) (hv : v.l.length = m) (ho : o.l.length = m) (hb : bal.length = m) (hbal : ∀ k, fn bal k ≤ 1099511627776) (q4 : b1 < w.heap.size) (q5 : b2 < w.heap.size) (q6 : b3 < w.heap.size)
  (t0 : w.heap[bv]? = some (.cells (vo ⟨⟨some ⟨b1, o1, none⟩, m, c1⟩, v.out⟩) 29 (0, 0))) (t1 : w.heap[bb]? = some (.cells (vo ⟨⟨some ⟨b2, o2, none⟩, m, c2⟩, o.out⟩) 29 (0, 0))) (t2 : w.heap[bl]? = some (.cells #[.slice (some ⟨b3, o3, none⟩) m c3] 25 (0, 0)))
  (x1 : w.rangeAt b1 o1 (zaq Elt v.l)) (x2 : w.rangeAt b2 o2 (zaq Elt o.l)) (x3 : w.rangeAt b3 o3 (zaq Enum bal)) :
  Calls Tryz.prog 150 #[.agg (tr ⟨⟨p, n, cp⟩⟩), .func (.func 176) #[] #[.pointer (some ⟨bv, 0, none⟩), .pointer (some ⟨bb, 0, none⟩), .pointer (some ⟨bl, 0, none⟩)]] w fun e w' => ∃ u, e = .returned u ∧ OwnE Enum w' w.heap.size u (zcd (zsa l v o bal) n) ∧ Below w.heap.size w w' := by
 have HD := Lib.hid (fun (W : World) (g : Below w.heap.size w W) => z1m 2 w.heap.size bv bb bl b1 o1 c1 b2 o2 c2 b3 o3 c3 m v o bal W g.size (by omega) hv ho hb (Array.getElem?_eq_some_iff.1 t0).1 (Array.getElem?_eq_some_iff.1 t1).1 (Array.getElem?_eq_some_iff.1 t2).1 q4 q5 q6 (zac g t0) (zac g t1) (zac g t2) (zfq g q4 x1) (zfq g q5 x2) (zfq g q6 x3))
 have HF := Lib.hid (fun (r : Rt) (W : World) (g : Below w.heap.size w W) => zeh ⟨p, n, cp⟩ l r W (zad g h))
 have HMt := Lib.hid hm
 have HL := Lib.hid hl
 have HMb := Lib.hid hbal
 have HN : Hid (1 ≤ n ∧ n ≤ 12 ∧ m ≤ 8) := by show _ ∧ _ ∧ _; have := hm.le; have := hm.pos; omega
 have HA : Hid (zcd (zsa l v o bal) n = zcd (accF l v bal (nwT v o m)) n) := by
  show _ = _
  refine zkj fun i _ => ?_
  show selF _ _ _ = _
  rw [hb]
  exact (yei i m).symm
 obtain ⟨A, hA⟩ : ∃ A : List Nat → List UInt64, A = fun ks => zcd (accF l v bal ks) n := ⟨_, rfl⟩
 have HAd : Hid (∀ ks, A ks = zcd (accF l v bal ks) n) := by show ∀ ks, _ = _; rw [hA]; exact fun _ => rfl
 have HAl : Hid (∀ ks, (A ks).length = n) := by show ∀ ks, _ = _; rw [hA]; exact fun _ => zdg _ _
 obtain ⟨W0, hW0⟩ : ∃ W0, W0 = w.alloc (.cells (tr ⟨⟨p, n, cp⟩⟩) 24) := ⟨_, rfl⟩
 have HB : Hid (Below w.heap.size w W0) := by rw [hW0]; exact below1
 have M0 : Hid (W0.heap[w.heap.size]? = some (.cells (tr ⟨⟨p, n, cp⟩⟩) 24 (0, 0))) := by rw [hW0]; exact heap_alloc_last w _
 have HZ0 : Hid (W0.heap.size = w.heap.size + 1) := by rw [hW0]; exact World.size_alloc _ _
 have HW := Lib.hid hW0
 obtain ⟨ii, hi, hz0, hz1, hz2⟩ := info_parts zq7
 have z0 := (zai M0.out).1
 dsimp only at z0
 rw [za0] at z0
 have n0 : (0 : Int) ≤ (n : Int) := by omega
 clear hW0 h hm hl hm8 hv ho hb hbal q4 q5 q6 t0 t1 t2 x1 x2 x3 hA
 refine callsIn_wide.1 (callsIn_of_wp_marks (n := 3) Tryz.func150 rfl trivial (wpIn_wide.2 ?_))
 simp only [Tryz.ntmps150, List.size_toArray, List.length_cons, List.length_nil, Nat.reduceAdd, Nat.reduceSub, Array.replicate_succ, Array.replicate_zero, List.push_toArray, List.append_toArray, List.nil_append, List.cons_append]
 go_upto_region 1 with fail
 rw [← HW.out]
 go_wp2_with (at_make; refine wpList_make_full _ rfl _ _ 25 rfl W0.heap.size 27 ii _ 1 Tryz.underlying25 hi hz0 hz1 .i64 .i64 _ _ n rfl rfl rfl rfl (by rw [hz2]; have := HN.out; omega) (by unfold maxLen; have := HN.out; omega) (Nat.le_refl _) ?_; intro wz hown hgrow)
 have BZ : Hid (Below W0.heap.size W0 wz) := (Below.refl _ _).grown hgrow (Nat.le_refl _) (fun k hk => by cases hk)
 have OZ : Hid (OwnE Enum wz W0.heap.size (.slice (some ⟨W0.heap.size, 0, none⟩) n n) (A [])) := by
  have := z85 hown
  rw [← z9c (l := l) (v := v) (bal := bal) n, ← HAd.out []] at this
  exact this
 obtain ⟨W2, hW2⟩ : ∃ W2, W2 = wz.alloc (.cells #[.slice (some ⟨W0.heap.size, 0, none⟩) n n] 25) := ⟨_, rfl⟩
 have hbz : Below wz.heap.size wz W2 := by rw [hW2]; exact below1
 have HZ2 : Hid (W2.heap.size = wz.heap.size + 1) := by rw [hW2]; exact World.size_alloc _ _
 have HSZ : Hid (w.heap.size < W0.heap.size ∧ W0.heap.size < wz.heap.size ∧ wz.heap.size < W2.heap.size) := by
  show _ ∧ _ ∧ _
  have h1 := (OZ.out.lt W0.heap.size rfl).2
  have := HZ0.out
  have := HZ2.out
  omega
 have BY : Hid (Byw w.heap.size W0.heap.size wz.heap.size n ⟨⟨p, n, cp⟩⟩ A w [] W2) :=
  ⟨zac (zab BZ.out hbz) M0.out, by rw [hW2]; exact heap_alloc_last wz _, by rw [← HZ0.out]; exact za5 hbz OZ.out, zab HB.out (zab BZ.out hbz)⟩
 have HW2 := Lib.hid hW2
 clear hown hgrow hW2 hbz z0 n0 hi hz0 hz1 hz2 ii
 go_wp2_with fail
 rw [← HW2.out]
 refine (wpIn_wide (n := 3)).1 ?_
 have hD := HD.out W2 BY.out.old
 obtain ⟨g, hg⟩ : ∃ g, g = W0.heap.size := ⟨_, rfl⟩
 obtain ⟨bx, hbx⟩ : ∃ bx, bx = wz.heap.size := ⟨_, rfl⟩
 rw [← hg, ← hbx] at BY HSZ
 rw [← hg, ← hbx]
 clear HW2 BZ OZ HW HB M0 HZ2 HZ0 hg hbx HD
 have HBY := BY.out
 refine wpIn_rangeFunc_ownH (w0 := W2) rfl (by omega) (gf := 176) (lb := #[.pointer (some ⟨bv, 0, none⟩), .pointer (some ⟨bb, 0, none⟩), .pointer (some ⟨bl, 0, none⟩)]) rfl trivial zs2
  hD belowK_t (belowK_b (by have := HSZ.out; omega)) (Below.refl _ _) (fun _ => rfl)
  (fun pre W => Byw w.heap.size g bx n ⟨⟨p, n, cp⟩⟩ A w (pre.map Subtype.val) W) (fun _ _ _ => False)
  (yep (fun pre : List { x // x ∈ nwT v o m } => pre.map Subtype.val) (by have := HSZ.out; omega) (by have := HSZ.out; omega) rfl) (fun _ _ _ _ _ h _ _ => h)
  HBY (fun (x : { x // x ∈ nwT v o m }) (a' : Act) (W : World) => ∃ b6 : Nat, a' = { tmps := #[.agg (tr ⟨⟨p, n, cp⟩⟩), .func (.func 176) #[] #[.pointer (some ⟨bv, 0, none⟩), .pointer (some ⟨bb, 0, none⟩), .pointer (some ⟨bl, 0, none⟩)], .pointer (some ⟨w.heap.size, 0, none⟩), undef, .slice none 0 0, .pointer (some ⟨bx, 0, none⟩), .pointer (some ⟨b6, 0, none⟩), .int .u64 (fn bal x.1 : Int), undef, .pointer (some ⟨w.heap.size, 0, none⟩), .slice p n cp, .int .i64 (n : Int), .slice (some ⟨g, 0, none⟩) n n, .func (.func 176) #[] #[.pointer (some ⟨bv, 0, none⟩), .pointer (some ⟨bb, 0, none⟩), .pointer (some ⟨bl, 0, none⟩)], .agg (lt (lat v.l x.1)), .int .u64 (fn bal x.1 : Int), undef, undef, undef, undef, undef, undef, undef, undef, undef, undef, undef, undef, undef, undef], defers := [] } ∧ W.heap[b6]? = some (.cells (lt (lat v.l x.1)) 115 (0, 0)))
  (fun x a' s X Y row ⟨b6, e, h⟩ hg hr => ⟨b6, e, (hg.block b6 (Array.getElem?_eq_some_iff.1 h).1 (fun e => by obtain ⟨_, o, ho, hc⟩ := hr b6 e.symm; rw [h] at ho; cases ho; cases hc)).trans h⟩) ?assign ?body ?done ?stop
 case assign =>
  intro lo pre x W K hI hK
  have hs : w.heap.size ≤ W.heap.size := hI.old.size
  gi_wp2
  refine hK _ _ ((KeepsOthers.alloc _ _).from _) ((below1 (w := W)).mono hs) (hI.keep below1 hs) ⟨W.heap.size, rfl, heap_alloc_last W _⟩
 case body =>
  rintro lo pre x a' W hlo ⟨r, hr⟩ hI ⟨b6, rfl, h6⟩ hlen
  obtain ⟨k, hk⟩ := x
  dsimp only at h6
  have hs : w.heap.size ≤ W.heap.size := hI.old.size
  have y1 := (zai hI.tree).2.1
  have y2 := (zf8 h6).2.1
  have HFr := Lib.hid (HF.out (lat v.l k).root W hI.old)
  have HI := Lib.hid hI
  have HP := Lib.hid (show (pre ++ [(⟨k, hk⟩ : { x // x ∈ nwT v o m })]).map Subtype.val = pre.map Subtype.val ++ [k] by rw [List.map_append]; rfl)
  have HLn : Hid ((pre.map Subtype.val).length ≤ 8) := by
   show _ ≤ 8
   rw [List.length_map]
   have := ygk v o m
   have := HN.out
   omega
  have hsm := yh3 (l := l) (v := v) HMb.out (pre.map Subtype.val)
  have hb1 := HMb.out k
  have HC := Lib.hid (show ∀ i, accF l v bal (pre.map Subtype.val) i ≤ 8796093022208 from fun i => by have h1 := hsm i; have h2 := HLn.out; have h3 := Nat.mul_le_mul_right 1099511627776 h2; omega)
  have HT : Hid ((∃ a : Nat, zaz l (lat v.l k).root = (a : Int) ∧ a < n ∧ (A (pre.map Subtype.val)).set a (UInt64.ofNat (accF l v bal (pre.map Subtype.val) a + fn bal k)) = A (pre.map Subtype.val ++ [k]) ∧ fn (A (pre.map Subtype.val)) a = accF l v bal (pre.map Subtype.val) a) ∨ (zaz l (lat v.l k).root < 0 ∧ A (pre.map Subtype.val) = A (pre.map Subtype.val ++ [k]))) := by
   show _ ∨ _
   rw [HAd.out, HAd.out, ← HL.out]
   by_cases h0 : 0 ≤ zaz l (lat v.l k).root
   ·
    obtain ⟨a, ha⟩ : ∃ a : Nat, zaz l (lat v.l k).root = (a : Int) := ⟨_, (Int.toNat_of_nonneg h0).symm⟩
    obtain ⟨h1, h2⟩ := z3q (bal := bal) (v := v) (k := k) HMt.out ha (pre.map Subtype.val)
    exact .inl ⟨a, ha, h1, h2, zv6 h1 (by have := HC.out a; omega)⟩
   ·
    exact .inr ⟨by omega, z9b HMt.out (by omega) _⟩
  have HB1 := Lib.hid hb1
  clear hsm hb1 hlen h6
  generalize lat v.l k = X at *
  obtain ⟨z, hz⟩ : ∃ z, z = zaz l X.root := ⟨_, rfl⟩
  rw [← hz] at HFr HT
  clear hz
  gi_wp2
  refine ⟨trivial, (callsIn_wide.2 HFr.out).mono ?_⟩
  rintro e W1 ⟨rfl, g1⟩
  have hI1 := HI.out.keep g1 hs
  have HI1 := Lib.hid hI1
  have HG1 := Lib.hid g1
  have HS1 := Lib.hid hs
  have e1 := (zam hI1.box).1
  clear y1 y2 g1 hI hI1 hr hs
  rcases HT.out with ⟨a, rfl, han, hset, hfn⟩ | ⟨hz, hset⟩
  ·
   have c0 : decide ((0 : Int) ≤ (a : Int)) = true := decide_eq_true (by omega)
   have i0 : (0 : Int) ≤ (a : Int) := by omega
   have i1 : (a : Int) < (n : Int) := by omega
   have e2 := zfp HI1.out.own (k := a) (by rw [HAl.out]; exact han)
   have e3 := znw HI1.out.own (HAl.out _) a
   rw [hfn] at e2
   obtain ⟨s, hs⟩ : ∃ s, s = accF l v bal (pre.map Subtype.val) a := ⟨_, rfl⟩
   obtain ⟨y, hy⟩ : ∃ y, y = fn bal k := ⟨_, rfl⟩
   have h1 := HC.out a
   have h2 := HB1.out
   rw [← hs] at e2 h1
   rw [← hs, ← hy] at hset
   rw [← hy] at h2 ⊢
   have HU : Hid (IntKind.u64.wrap ((s : Int) + (y : Int)) = ((s + y : Nat) : Int)) := by show _ = _; rw [IntKind.wrap_u64]; omega
   have HLt : Hid (s + y < 18446744073709551616) := by show _ < _; omega
   have HSet := Lib.hid hset
   clear hs hy h1 h2 hset hfn HT HC HB1
   gi_wp2
   rw [HU.out]
   have gk : KeepsFrom W2.heap.size W W1 := KeepsFrom.of_grownBy (zbd HG1.out) (fun j e => by cases e)
   refine ⟨gk.trans ((KeepsOthers.setCell _ _ _).from _), (HG1.out.mono HS1.out).setCell (p := ⟨g, a, none⟩) (by show _ ≤ g; have := HSZ.out; omega) _, ?_⟩
   show Byw w.heap.size g bx n ⟨⟨p, n, cp⟩⟩ A w ((pre ++ [(⟨k, hk⟩ : { x // x ∈ nwT v o m })]).map Subtype.val) _
   rw [HP.out]
   exact HI1.out.put (by have := HSZ.out; omega) (by have := HSZ.out; omega) (by have := HSZ.out; omega) (HAl.out _) HLt.out HSet.out
  ·
   have c0 : decide ((0 : Int) ≤ z) = false := decide_eq_false (by omega)
   have HSet := Lib.hid hset
   clear hz hset HT HC HB1
   gi_wp2
   have gk : KeepsFrom W2.heap.size W W1 := KeepsFrom.of_grownBy (zbd HG1.out) (fun j e => by cases e)
   refine ⟨gk, HG1.out.mono HS1.out, ?_⟩
   show Byw w.heap.size g bx n ⟨⟨p, n, cp⟩⟩ A w ((pre ++ [(⟨k, hk⟩ : { x // x ∈ nwT v o m })]).map Subtype.val) _
   rw [HP.out]
   exact HI1.out.to HSet.out
 case done =>
  intro D ys W hD hys hI hK
  have e1 := (zam hI.box).1
  have HI := Lib.hid hI
  have HKD := Lib.hid hK
  have HDD : Hid (w.heap.size ≤ D) := by show _ ≤ _; have := HSZ.out; omega
  have HR : Hid (zcd (zsa l v o bal) n = A (ys.map Subtype.val)) := by show _ = _; rw [HA.out, hys, HAd.out]
  clear hI hK hys hD
  go_wp2_with fail
  refine zf6 (v := .slice (some ⟨g, 0, none⟩) n n) HKD.out ⟨by simp [results, Tryz.results150, go_sem], _, rfl, ?_, zcu HKD.out HI.out.old HDD.out⟩
  rw [HR.out]
  exact zbi (zwy (B := 0) (fun _ : List Unit => Value.slice (some ⟨g, 0, none⟩) n n) (fun _ => A (ys.map Subtype.val)) [] _ _ _ HI.out.own (grownBy_putObj' W D _) (fun r e => by cases e; exact ⟨Nat.zero_le _, _, HKD.out, rfl⟩)) (Nat.le_succ _)
 case stop =>
  intro D c pre W _ _ h
  exact h.elim
theorem ziv : ∀ args w, (callFunc 150 args).run Tryz.prog w = .ok (.enter 150 args) w := za7 Tryz.func150 (by kernel_rfl) (by kernel_rfl)
end
theorem z8j (n : Int) (w : World) : Calls Tryz.prog 101 #[.int .i64 n] w fun e w' => e = .returned (.bool (zgl n)) ∧ Below w.heap.size w w' := by
 by_cases h0 : 0 < n
 ·
  have t0 : decide (0 < n) = true := decide_eq_true h0
  by_cases h1 : n ≤ 8
  ·
   have t1 : decide (n ≤ 8) = true := decide_eq_true h1
   rw [show zgl n = true from decide_eq_true ⟨by omega, h1⟩]
   clear h0 h1
   go_enter Tryz.func101, Tryz.ntmps101
   go_wp2_with fail
   go_ret
   exact ⟨rfl, Below.refl _ _⟩
  ·
   have t1 : decide (n ≤ 8) = false := decide_eq_false h1
   rw [show zgl n = false from decide_eq_false (fun h => h1 h.2)]
   clear h0 h1
   go_enter Tryz.func101, Tryz.ntmps101
   go_wp2_with fail
   go_ret
   exact ⟨rfl, Below.refl _ _⟩
 ·
  have t0 : decide (0 < n) = false := decide_eq_false h0
  rw [show zgl n = false from decide_eq_false (fun h => h0 (by omega))]
  clear h0
  go_enter Tryz.func101, Tryz.ntmps101
  go_wp2_with fail
  go_ret
  exact ⟨rfl, Below.refl _ _⟩
theorem yhe (s : SlV) (out : UInt64) {j : Nat} (hj : j < 64) (w : World) : Calls Tryz.prog 196 #[.agg (vo ⟨s, out⟩), .int .i64 (j : Int)] w fun e w' => e = .returned (.bool (hasB out j)) ∧ Below w.heap.size w w' := by
 obtain ⟨W0, hW0⟩ : ∃ W0, W0 = w.alloc (.cells (vo ⟨s, out⟩) 29) := ⟨_, rfl⟩
 have HB : Hid (Below w.heap.size w W0) := by rw [hW0]; exact below1
 have hM0 : W0.heap[w.heap.size]? = some (.cells (vo ⟨s, out⟩) 29 (0, 0)) := by rw [hW0]; exact heap_alloc_last w _
 have HW := Lib.hid hW0
 have zo := (zbo hM0).2.1
 dsimp only at zo
 have HS := Lib.hid (zsb (j : Int))
 obtain ⟨B, hB⟩ : ∃ B, B = (bitN (j : Int) : Int) := ⟨_, rfl⟩
 obtain ⟨M, hM⟩ : ∃ M, M = (out.toNat : Int) := ⟨_, rfl⟩
 obtain ⟨x, hx⟩ : ∃ x, x = ((out.toNat &&& 2 ^ j : Nat) : Int) := ⟨_, rfl⟩
 obtain ⟨r, hr⟩ : ∃ r, r = hasB out j := ⟨_, rfl⟩
 have a1 : bits .and .u64 M B = x := by rw [hM, hB, hx]; exact z3s out hj
 have a2 : (x != 0) = r := by rw [hx, hr]; exact z3t out j
 rw [← hB] at HS
 rw [← hM] at zo
 rw [← hr]
 clear hW0 hM0 hB hM hx hr
 go_enter Tryz.func196, Tryz.ntmps196
 go_upto_region 1 with fail
 rw [← HW.out]
 have La := fun q : Wd W0.drew => zbc zo q
 refine zaj [3] (by kernel_rfl) (by kernel_rfl) (by kernel_rfl) ?_
 repeat (refine zae rfl rfl _ zaf ?_; (first | go_big_quiet_step (fail) | quiet_step (fail)); refine wpQuiet_nil ?_)
 refine zan rfl rfl rfl zmv #[.int .i64 (j : Int)] rfl ?_
 refine (HS.out _).mono ?_
 rintro e u ⟨rfl, g⟩
 refine ⟨_, rfl, g, ?_⟩
 simp only [Act.put, List.setIfInBounds_toArray, List.set_cons_zero, List.set_cons_succ]
 have G := Lib.hid (zab HB.out (zab (zah (Below.refl _ _) 1) g))
 clear g La
 repeat (refine zae rfl rfl _ zaf ?_; (first | go_big_quiet_step (fail) | quiet_step (fail)); refine wpQuiet_nil ?_)
 refine za3 ?_
 go_wp2_with fail
 go_ret
 exact ⟨rfl, G.out⟩
theorem z6a {v : Vt} {n : Nat} (hl : v.l.length = n) (h1 : 1 ≤ n) (h8 : n ≤ 8) (h : ∀ q, q < n → okAt v q = true) : mayV v = decide (clrU v.out.toNat n = 0) := by
 rw [Bool.eq_iff_iff, decide_eq_true_iff, zcf, z97, hl]
 constructor
 ·
  rintro ⟨_, _, h3⟩ i hi
  by_cases h64 : i < 64
  ·
   have := (zrt.1 (h3 i h64)).1
   rw [hl] at this
   cases e : v.out.toNat.testBit i
   ·
    rfl
   ·
    have := this e; omega
  ·
   exact Nat.testBit_lt_two_pow (Nat.lt_of_lt_of_le v.out.toNat_lt (Nat.pow_le_pow_right (by omega) (by omega)))
 ·
  intro h3
  refine ⟨h1, h8, fun i hi => ?_⟩
  by_cases hin : i < n
  ·
   exact h i hin
  ·
   refine zrt.2 ⟨fun e => ?_, fun e => by omega⟩
   have e' : v.out.toNat.testBit i = true := e
   rw [h3 i (by omega)] at e'
   cases e'
theorem z8k (p : Option Addr) (n cp : Nat) (v : Vt) (w : World) (h : SlE Elt w (.slice p n cp) v.l) (hl : v.l.length = n) :
  Calls Tryz.prog 175 #[.agg (vo ⟨⟨p, n, cp⟩, v.out⟩)] w fun e w' => e = .returned (.bool (mayV v)) ∧ Below w.heap.size w w' := by
 obtain ⟨W0, hW0⟩ : ∃ W0, W0 = w.alloc (.cells (vo ⟨⟨p, n, cp⟩, v.out⟩) 29) := ⟨_, rfl⟩
 have A : Hid (Vw w W0 w.heap.size ⟨p, n, cp⟩ v) := by rw [hW0]; exact yeb h
 have HW := Lib.hid hW0
 have HL := Lib.hid hl
 have HF := Lib.hid (z8j (n : Int) W0)
 have HO : Hid (∀ (s : SlV) (j : Nat) (hj : j < 64) W, Calls Tryz.prog 196 #[.agg (vo ⟨s, v.out⟩), .int .i64 (j : Int)] W fun e w' => e = .returned (.bool (hasB v.out j)) ∧ Below W.heap.size W w') := fun s j hj W => yhe s v.out hj W
 obtain ⟨f, hf⟩ : ∃ f, f = zgl (n : Int) := ⟨_, rfl⟩
 rw [← hf] at HF
 obtain ⟨r, hr⟩ : ∃ r, r = mayV v := ⟨_, rfl⟩
 rw [← hr]
 have HR := Lib.hid hr
 have z0 := A.out.z0
 rw [za0] at z0
 clear hW0 h hl hr
 cases f
 ·
  have hR : Hid (r = false) := by
   show r = false
   rw [HR.out, ← Bool.not_eq_true]
   intro e
   have h1 := (zcf.1 e).1
   have h2 := (zcf.1 e).2.1
   rw [HL.out] at h1 h2
   exact of_decide_eq_false hf.symm (by omega)
  clear hf
  go_enter Tryz.func175, Tryz.ntmps175
  go_upto_region 1 with fail
  rw [← HW.out]
  go_wp2_with fail
  refine HF.out.mono ?_
  rintro e w1 ⟨rfl, g⟩
  go_wp2_with fail
  go_ret
  exact ⟨by rw [hR.out]; first | done | rfl, zab A.out.g g⟩
 ·
  have hf' : 1 ≤ (n : Int) ∧ (n : Int) ≤ 8 := of_decide_eq_true hf.symm
  have H1 : Hid (1 ≤ n ∧ n ≤ 8) := by show _ ∧ _; omega
  clear hf hf'
  obtain ⟨M, hM⟩ : ∃ M, M = (v.out.toNat : Int) := ⟨_, rfl⟩
  have zo := A.out.zo
  have HMz : Hid (M = (clrU v.out.toNat 0 : Int)) := by show _ = _; rw [hM, z98]
  have HMo := Lib.hid hM
  rw [← hM] at zo
  clear hM
  go_enter Tryz.func175, Tryz.ntmps175
  go_upto_region 1 with fail
  rw [← HW.out]
  go_wp2_with fail
  refine HF.out.mono ?_
  rintro e w1 ⟨rfl, g⟩
  replace A := Lib.hid (A.out.keep g)
  clear g z0 zo HF
  have zo := A.out.zo
  rw [← HMo.out] at zo
  have z0 := A.out.z0
  rw [za0] at z0
  go_wp2_with fail
  clear z0 zo
  go_loopw [3, 17] (fun m i wr => ∃ j : Nat, j ≤ n ∧ i = .int .i64 (j : Int) ∧ m = .int .u64 (clrU v.out.toNat j : Int) ∧ (∀ q, q < j → okAt v q = true) ∧ Vw w wr w.heap.size ⟨p, n, cp⟩ v) (fun _ i _ => n - (intOf i).toNat)
  case atStart => exact ⟨0, Nat.zero_le _, rfl, by rw [HMz.out], fun q hq => absurd hq (Nat.not_lt_zero _), A.out⟩
  case round =>
   obtain ⟨j, hj, rfl, rfl, hx, hA⟩ := hrel
   have HX := Lib.hid hx
   replace A := Lib.hid hA
   clear hx hA
   by_cases hlt : j < n
   ·
    have i0 : (0 : Int) ≤ (j : Int) := by omega
    have i1 : (j : Int) < (n : Int) := by omega
    have u1 : (j : Int) + 1 < 10000 := by have := H1.out; omega
    have H64 : Hid (j < 64) := by have := H1.out; show j < 64; omega
    have HLT := Lib.hid hlt
    obtain ⟨b1, o1, rfl, _, x1⟩ := zf5 A.out.s (by rw [HL.out]; omega)
    have y1 := znf x1 (i := j) (by rw [HL.out]; exact hlt)
    have hjl : j < v.l.length := by rw [HL.out]; exact hlt
    obtain ⟨b, hb⟩ : ∃ b, b = hasB v.out j := ⟨_, rfl⟩
    have hk : okAt v j = (if b = true ∨ (lat v.l j).has = false then decide (lat v.l j = zlt) else true) := by
     unfold okAt
     rw [if_neg (fun e => e.2 hjl), ← hb]
     by_cases e : b = true ∨ (lat v.l j).has = false
     ·
      rw [if_pos ⟨hjl, e⟩, if_pos e]
     ·
      rw [if_neg (fun e2 => e e2.2), if_neg e]
    have HC : Hid (∀ s W, Calls Tryz.prog 196 #[.agg (vo ⟨s, v.out⟩), .int .i64 (j : Int)] W fun e w' => e = .returned (.bool b) ∧ Below W.heap.size W w') := fun s W => by rw [hb]; exact HO.out s j H64.out W
    have HNo : Hid (okAt v j = false → r = false) := fun e => by
     rw [HR.out, ← Bool.not_eq_true]
     intro e2
     rw [(zcf.1 e2).2.2 j H64.out] at e
     cases e
    obtain ⟨c1, hc1⟩ : ∃ c, c = clrU v.out.toNat j := ⟨_, rfl⟩
    obtain ⟨c2, hc2⟩ : ∃ c, c = clrU v.out.toNat (j + 1) := ⟨_, rfl⟩
    obtain ⟨B, hB⟩ : ∃ B, B = (bitN (j : Int) : Int) := ⟨_, rfl⟩
    have a1 : bits .andNot .u64 (c1 : Int) B = (c2 : Int) := by rw [hc1, hc2, hB]; exact z96 v.out.toNat_lt H64.out
    have HSb := Lib.hid (fun W => zsb (j : Int) W)
    rw [← hB] at HSb
    rw [← hc1]
    have HC2 := Lib.hid hc2
    generalize lat v.l j = x at *
    obtain ⟨hs, hhs⟩ : ∃ hs, hs = x.has := ⟨_, rfl⟩
    rw [← hhs] at hk
    have HK := Lib.hid hk
    have HHs := Lib.hid hhs
    clear x1 hk hjl hb hlt hc1 hc2 hB hhs
    go_upto_region 7 with fail
    obtain ⟨w2, hw2⟩ : ∃ w2, w2 = wr.alloc (.cells (lt x) 115) := ⟨_, rfl⟩
    rw [← hw2]
    have hx2 : w2.heap[wr.heap.size]? = some (.cells (lt x) 115 (0, 0)) := by rw [hw2]; exact heap_alloc_last wr _
    have X2 := Lib.hid hx2
    replace A := Lib.hid (A.out.keep (W' := w2) (by rw [hw2]; exact below1))
    have z1 := A.out.z1
    obtain ⟨q0, q1, q2, q3, q4⟩ := zf8 hx2
    rw [← HHs.out] at q0
    clear hw2 hx2 y1
    by_cases hz : x = zlt
    ·
     have t1 : decide (x = zlt) = true := decide_eq_true hz
     have HT : Hid (okAt v j = true) := by show _ = _; rw [HK.out, decide_eq_true hz]; split <;> rfl
     clear hz
     cases hs
     ·
      go_wp2_with fail
      refine (HSb.out _).mono ?_
      rintro e w4 ⟨rfl, g⟩
      replace A := Lib.hid (A.out.keep g)
      clear g
      go_wp2_with fail
      go_roundw
      case rel => exact ⟨j + 1, HLT.out, by go_num, by rw [HC2.out], (fun q hq => by
       rcases Nat.lt_succ_iff_lt_or_eq.1 hq with h | rfl
       ·
        exact HX.out q h
       ·
        exact HT.out), A.out⟩
      case measure => simp [intOf]; have := HLT.out; omega
     ·
      cases b
      ·
       go_wp2_with fail
       refine (HC.out _ _).mono ?_
       rintro e w3 ⟨rfl, g⟩
       replace A := Lib.hid (A.out.keep g)
       obtain ⟨q0, q1, q2, q3, q4⟩ := zf8 (zac g X2.out)
       clear g z1
       go_wp2_with fail
       refine (HSb.out _).mono ?_
       rintro e w4 ⟨rfl, g⟩
       replace A := Lib.hid (A.out.keep g)
       clear g
       go_wp2_with fail
       go_roundw
       case rel => exact ⟨j + 1, HLT.out, by go_num, by rw [HC2.out], (fun q hq => by
        rcases Nat.lt_succ_iff_lt_or_eq.1 hq with h | rfl
        ·
         exact HX.out q h
        ·
         exact HT.out), A.out⟩
       case measure => simp [intOf]; have := HLT.out; omega
      ·
       go_wp2_with fail
       refine (HC.out _ _).mono ?_
       rintro e w3 ⟨rfl, g⟩
       replace A := Lib.hid (A.out.keep g)
       obtain ⟨q0, q1, q2, q3, q4⟩ := zf8 (zac g X2.out)
       clear g z1
       go_wp2_with fail
       refine (HSb.out _).mono ?_
       rintro e w4 ⟨rfl, g⟩
       replace A := Lib.hid (A.out.keep g)
       clear g
       go_wp2_with fail
       go_roundw
       case rel => exact ⟨j + 1, HLT.out, by go_num, by rw [HC2.out], (fun q hq => by
        rcases Nat.lt_succ_iff_lt_or_eq.1 hq with h | rfl
        ·
         exact HX.out q h
        ·
         exact HT.out), A.out⟩
       case measure => simp [intOf]; have := HLT.out; omega
    ·
     have t1 : decide (x = zlt) = false := decide_eq_false hz
     cases hs
     ·
      have HF : Hid (r = false) := HNo.out (by rw [HK.out, if_pos (.inr rfl), t1])
      clear hz
      go_wp2_with fail
      go_ret
      exact ⟨by rw [HF.out]; first | done | rfl, A.out.g⟩
     ·
      cases b
      ·
       have HT : Hid (okAt v j = true) := by show _ = _; rw [HK.out, if_neg (by simp)]
       clear hz
       go_wp2_with fail
       refine (HC.out _ _).mono ?_
       rintro e w3 ⟨rfl, g⟩
       replace A := Lib.hid (A.out.keep g)
       obtain ⟨q0, q1, q2, q3, q4⟩ := zf8 (zac g X2.out)
       clear g z1
       go_wp2_with fail
       refine (HSb.out _).mono ?_
       rintro e w4 ⟨rfl, g⟩
       replace A := Lib.hid (A.out.keep g)
       clear g
       go_wp2_with fail
       go_roundw
       case rel => exact ⟨j + 1, HLT.out, by go_num, by rw [HC2.out], (fun q hq => by
        rcases Nat.lt_succ_iff_lt_or_eq.1 hq with h | rfl
        ·
         exact HX.out q h
        ·
         exact HT.out), A.out⟩
       case measure => simp [intOf]; have := HLT.out; omega
      ·
       have HF : Hid (r = false) := HNo.out (by rw [HK.out, if_pos (.inl rfl), t1])
       clear hz
       go_wp2_with fail
       refine (HC.out _ _).mono ?_
       rintro e w3 ⟨rfl, g⟩
       replace A := Lib.hid (A.out.keep g)
       obtain ⟨q0, q1, q2, q3, q4⟩ := zf8 (zac g X2.out)
       clear g z1
       go_wp2_with fail
       go_ret
       exact ⟨by rw [HF.out]; first | done | rfl, A.out.g⟩
   ·
    obtain rfl : j = n := by omega
    have hR : Hid (r = decide (clrU v.out.toNat j = 0)) := by show _ = _; rw [HR.out]; exact z6a HL.out H1.out.1 H1.out.2 HX.out
    obtain ⟨c, hc⟩ : ∃ c, c = clrU v.out.toNat j := ⟨_, rfl⟩
    rw [← hc] at hR ⊢
    have t1 : ((c : Int) == 0) = decide (c = 0) := by rw [Bool.eq_iff_iff, beq_iff_eq, decide_eq_true_iff]; omega
    have t2 : (c == 0) = decide (c = 0) := by rw [Bool.eq_iff_iff, beq_iff_eq, decide_eq_true_iff]
    have HRR := Lib.hid hR.out
    clear hlt hc hR
    go_wp2_with fail
    go_ret
    exact ⟨by rw [HRR.out]; first | done | rfl | simp, A.out.g⟩
theorem yhd (s : SlV) (v : Vt) (w : World) (h : SlE Elt w (sv s) v.l) :
  Calls Tryz.prog 175 #[.agg (vo ⟨s, v.out⟩)] w fun e w' => e = .returned (.bool (mayV v)) ∧ Below w.heap.size w w' := by
 have hl := zg8 h
 obtain ⟨p, n, cp⟩ := s
 dsimp only at hl
 exact z8k p n cp v w h hl
end Go.Proofs.YtkalofboioffiaaGreat
