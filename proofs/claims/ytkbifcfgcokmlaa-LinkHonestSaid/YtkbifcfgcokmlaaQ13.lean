/-
  Blocks kept over calls; in every program.
  An element stored whole into a slice; for every program.
  Links in memory.
-/
import Derived.Test.YtkbifcfgcokmlaaQ12
import Derived.Test.YtkbifcfgcokmlaaQ03
import Derived.Test.YtkbifcfgcokmlaaQ10
import Derived.Laws.Bits64b
namespace Go.Proofs.Ytkbifcfgcokmlaa
open Go.RowKit
set_option maxRecDepth 100000

theorem below1 {w : World} {o : Obj} : Below w.heap.size w (w.alloc o) := (Below.refl _ _).alloc (Nat.le_refl _) _
theorem blk_keep {w w' : World} {b : Nat} {o : Obj} (g : Below w.heap.size w w') (h : w.heap[b]? = some o) : w'.heap[b]? = some o := (g.block _ (Array.getElem?_eq_some_iff.1 h).1).trans h
theorem heap3 (w : World) (a b c : Array Value) (s t u : TypeId) (W : World) (hW : W = ((w.alloc (.cells a s)).alloc (.cells b t)).alloc (.cells c u)) : Below w.heap.size w W ∧ W.heap[w.heap.size]? = some (.cells a s (0, 0)) ∧ W.heap[w.heap.size + 1]? = some (.cells b t (0, 0)) ∧ W.heap[w.heap.size + 2]? = some (.cells c u (0, 0)) ∧ W.heap.size = w.heap.size + 3 := by
  subst hW
  have e1 : ∀ o : Obj, (w.alloc o).heap.size = w.heap.size + 1 := fun o => by simp
  have e2 : ∀ o o' : Obj, ((w.alloc o).alloc o').heap.size = w.heap.size + 2 := fun o o' => by simp
  refine ⟨belowT (belowT below1 below1) below1, ?_, ?_, ?_, by simp⟩
  · exact blk_keep below1 (blk_keep below1 (heap_alloc_last w _))
  · have := blk_keep (below1 (o := .cells c u)) (heap_alloc_last (w.alloc (.cells a s)) (.cells b t))
    rwa [e1] at this
  · have := heap_alloc_last ((w.alloc (.cells a s)).alloc (.cells b t)) (.cells c u)
    rwa [e2] at this
theorem heap2 (w : World) (a b : Array Value) (s t : TypeId) (W : World) (hW : W = (w.alloc (.cells a s)).alloc (.cells b t)) : Below w.heap.size w W ∧ W.heap[w.heap.size]? = some (.cells a s (0, 0)) ∧ W.heap[w.heap.size + 1]? = some (.cells b t (0, 0)) ∧ W.heap.size = w.heap.size + 2 := by
  subst hW
  have e1 : ∀ o : Obj, (w.alloc o).heap.size = w.heap.size + 1 := fun o => by simp
  refine ⟨belowT below1 below1, ?_, ?_, by simp⟩
  · exact blk_keep below1 (heap_alloc_last w _)
  · have := heap_alloc_last (w.alloc (.cells a s)) (.cells b t)
    rwa [e1] at this
theorem wd_cell {w : World} {g o : Nat} {v : Value} (h : w.cell? ⟨g, o, none⟩ = some v) (p : Wd w.drew) : p.w.cell? ⟨g, o, none⟩ = some v := (p.h.cell (p := ⟨g, o, none⟩) (block_lt_of_cell (show w.drew.cell? ⟨g, o, none⟩ = some v from h))).trans h
theorem wd_ld {w : World} {v : Value} {n : Nat} {c : Array Value} (h : ldA w v n = some c) (hn : 0 < n := by decide) (p : Wd w.drew) : ldA p.w v n = some c := ldA_wd (show ldA w.drew v n = _ by rw [ldA_drew]; exact h) hn p
theorem heap_putV {w : World} {g : Nat} {c r : Array Value} {t : TypeId} (hg : w.heap[g]? = some (.cells c t (0, 0))) (h : r.size = c.size) : (stA w (.pointer (some ⟨g, 0, none⟩)) (.agg r)).heap[g]? = some (.cells r t (0, 0)) := by
  rw [heap_stA_same hg (by omega)]
  congr 2
  apply Array.toList_inj.1
  unfold putSeg
  simp only [List.take_zero, List.nil_append, Nat.zero_add]
  rw [List.drop_of_length_le (by rw [Array.length_toList]; omega), List.append_nil]
end Go.Proofs.Ytkbifcfgcokmlaa
namespace Go.Proofs.Ytkbifcfgcokmlaa
open Go.RowKit
set_option maxRecDepth 100000
theorem range_join {w : World} {b o : Nat} {xs ys : List Value} (h : w.rangeAt b o xs) (k : w.rangeAt b (o + xs.length) ys) : w.rangeAt b o (xs ++ ys) := fun j v hv => by
  by_cases hj : j < xs.length
  · rw [List.getElem?_append_left hj] at hv
    exact h j v hv
  · rw [List.getElem?_append_right (by omega)] at hv
    have := k _ v hv
    rwa [show o + xs.length + (j - xs.length) = o + j by omega] at this
theorem range_left {w : World} {b o : Nat} {xs ys : List Value} (h : w.rangeAt b o (xs ++ ys)) : w.rangeAt b o xs := fun j v hv => h j v (by rw [List.getElem?_append_left (List.getElem?_eq_some_iff.1 hv).1]; exact hv)
theorem range_right {w : World} {b o : Nat} {xs ys : List Value} (h : w.rangeAt b o (xs ++ ys)) : w.rangeAt b (o + xs.length) ys := fun j v hv => by
  rw [Nat.add_assoc]
  exact h _ v (by rw [List.getElem?_append_right (by omega), Nat.add_sub_cancel_left]; exact hv)
section
variable {α : Type} {E : Lie α}
theorem cellsE_cut (l : List α) {i : Nat} (hi : i < l.length) : cellsE E l = cellsE E (l.take i) ++ (E.enc l[i] ++ cellsE E (l.drop (i + 1))) := by
  conv => lhs; rw [← List.take_append_drop i l]
  rw [cellsE_append, List.drop_eq_getElem_cons hi, cellsE_cons]
theorem cellsE_set (l : List α) {i : Nat} (hi : i < l.length) (x : α) : cellsE E (l.set i x) = cellsE E (l.take i) ++ (E.enc x ++ cellsE E (l.drop (i + 1))) := by
  rw [cellsE_cut (l.set i x) (i := i) (by rw [List.length_set]; exact hi), List.take_set_of_le (Nat.le_refl _), List.getElem_set_self, List.drop_set_of_lt (by omega)]
/-- The element's cells are those of the value, all others stay. -/
theorem range_put {w : World} {b o : Nat} {l : List α} (h : w.rangeAt b o (cellsE E l)) {i : Nat} (hi : i < l.length) (hw : wrA w (.pointer (some ⟨b, o + i * E.n, none⟩)) E.n = true) (x : α) :
    (w.setCells b (o + i * E.n) (E.enc x)).rangeAt b o (cellsE E (l.set i x)) := by
  have hlen : (cellsE E (l.take i)).length = i * E.n := by rw [cellsE_length, List.length_take, Nat.min_eq_left (by omega)]
  rw [cellsE_cut l hi] at h
  rw [cellsE_set l hi]
  have h1 := range_left h
  have h2 := range_right (range_right h)
  rw [hlen, E.len] at h2
  refine range_join (World.rangeAt_setCells_apart h1 _ _ _ (.inr (.inl (by rw [hlen]; exact Nat.le_refl _)))) (range_join ?_ ?_)
  · rw [hlen]
    exact World.rangeAt_setCells_same w b _ _ (by rw [E.len]; exact wrA_there.1 hw)
  · rw [hlen, E.len]
    exact World.rangeAt_setCells_apart h2 _ _ _ (.inr (.inr (by rw [E.len]; exact Nat.le_refl _)))
/-- An element of a row of the call's own may be written. -/
theorem ownE_wr {w : World} {base g n cap : Nat} {l : List α} (h : OwnE E w base (.slice (some ⟨g, 0, none⟩) n cap) l) (hl : l.length = n) {i : Nat} (hi : i < n) : wrA w (.pointer (some ⟨g, 0 + i * E.n, none⟩)) E.n = true := by
  subst hl
  obtain ⟨b, off, c, e, _, _, x⟩ := slE_ne (ownE_slE h) (by omega)
  injection e with e _ _
  injection e with e
  injection e with e1 e2
  subst e1 e2
  refine wrA_there.2 fun j hj => ⟨?_, ?_⟩
  · have hc : (E.enc l[i])[j]? = some ((E.enc l[i])[j]'(by rw [E.len]; exact hj)) := List.getElem?_eq_getElem _
    rw [cell_at x hi hc]
    rfl
  · exact World.ownsRow.frozenAt h _
end
end Go.Proofs.Ytkbifcfgcokmlaa
namespace Go.Proofs.Ytkbifcfgcokmlaa
open Go.RowKit
set_option maxRecDepth 100000

theorem k_and (a b : UInt64) : bits .and .u64 (a.toNat : Int) (b.toNat : Int) = ((a &&& b).toNat : Int) := by
  rw [bits_and_u64_nat a.toNat b.toNat a.toNat_lt b.toNat_lt, UInt64.toNat_and]
theorem k_or (a b : UInt64) : bits .or .u64 (a.toNat : Int) (b.toNat : Int) = ((a ||| b).toNat : Int) := by
  rw [bits_or_u64_nat a.toNat b.toNat a.toNat_lt b.toNat_lt, UInt64.toNat_or]
theorem lks_ptr {w : World} {p : Option Addr} {n cp : Nat} {l : List Lk} (h : SlE Elk w (.slice p n cp) l) (h0 : 0 < l.length) : ∃ b o, p = some ⟨b, o, none⟩ ∧ b < w.heap.size ∧ w.rangeAt b o (cellsE Elk l) := by
  obtain ⟨b, o, c, e, _, q, x⟩ := slE_ne h h0
  injection e with e1 e2 e3
  exact ⟨b, o, e1, q, x⟩
section
variable {w : World} {b off : Nat} {l : List Lk} {i : Nat}
theorem lks_rg (h : w.rangeAt b off (cellsE Elk l)) (hi : i < l.length) : w.rangeAt b (off + i * 67) (lkL (lkAt l i)) := by
  rw [lkAt_in hi]; exact range_at h hi
theorem lks_ld (h : w.rangeAt b off (cellsE Elk l)) (hi : i < l.length) : ldA w (.pointer (some ⟨b, off + i * 67, none⟩)) 67 = some (lk (lkAt l i)) := by
  have := ldA_at h hi
  rw [lkAt_in hi]
  exact this.trans (by rw [show (Elk.enc l[i]).toArray = lk l[i] from Array.toList_inj.1 (by rw [lk_list]; rfl)])
theorem lks_s (h : w.rangeAt b off (cellsE Elk l)) (hi : i < l.length) : ldA w (.pointer (some ⟨b, off + i * 67, none⟩)) 33 = some (cc (lkAt l i).s) := lk_rd_s (lks_rg h hi)
theorem lks_t (h : w.rangeAt b off (cellsE Elk l)) (hi : i < l.length) : ldA w (.pointer (some ⟨b, off + i * 67 + 33, none⟩)) 33 = some (cc (lkAt l i).t) := lk_rd_t (lks_rg h hi)
theorem lks_mask (h : w.rangeAt b off (cellsE Elk l)) (hi : i < l.length) : w.cell? ⟨b, off + i * 67 + 66, none⟩ = some (.int .u64 ((lkAt l i).mask.toNat : Int)) := lk_rd_mask (lks_rg h hi)
theorem lks_se (h : w.rangeAt b off (cellsE Elk l)) (hi : i < l.length) : w.cell? ⟨b, off + i * 67, none⟩ = some (.int .u64 ((lkAt l i).s.epoch.toNat : Int)) := lk_rd_s_epoch (lks_rg h hi)
theorem lks_te (h : w.rangeAt b off (cellsE Elk l)) (hi : i < l.length) : w.cell? ⟨b, off + i * 67 + 33, none⟩ = some (.int .u64 ((lkAt l i).t.epoch.toNat : Int)) := lk_rd_t_epoch (lks_rg h hi)
end
/-- A link in a variable. -/
structure LkV (W : World) (g : Nat) (x : Lk) : Prop where
  s : ldA W (.pointer (some ⟨g, 0, none⟩)) 33 = some (cc x.s)
  t : ldA W (.pointer (some ⟨g, 33, none⟩)) 33 = some (cc x.t)
  m : W.cell? ⟨g, 66, none⟩ = some (.int .u64 (x.mask.toNat : Int))
  se : W.cell? ⟨g, 0, none⟩ = some (.int .u64 (x.s.epoch.toNat : Int))
  te : W.cell? ⟨g, 33, none⟩ = some (.int .u64 (x.t.epoch.toNat : Int))
  a : ldA W (.pointer (some ⟨g, 0, none⟩)) 67 = some (lk x)
  g : g < W.heap.size
theorem lk_v {W : World} {g : Nat} {x : Lk} (h : W.heap[g]? = some (.cells (lk x) 36 (0, 0))) : LkV W g x :=
  ⟨lk_rd0_s h, lk_rd0_t h, lk_rd0_mask h, lk_rd0_s_epoch h, lk_rd0_t_epoch h, ldA_block h (lk_size x), (Array.getElem?_eq_some_iff.1 h).1⟩
/-- A checkpoint in a variable. -/
structure CkV (W : World) (g : Nat) (x : Ck) : Prop where
  a : ldA W (.pointer (some ⟨g, 0, none⟩)) 33 = some (cc x)
  e : W.cell? ⟨g, 0, none⟩ = some (.int .u64 (x.epoch.toNat : Int))
  g : g < W.heap.size
theorem ck_v {W : World} {g : Nat} {x : Ck} (h : W.heap[g]? = some (.cells (cc x) 27 (0, 0))) : CkV W g x :=
  ⟨ldA_block h (cc_size x), cc_rd0_epoch h, (Array.getElem?_eq_some_iff.1 h).1⟩
/-- The mask's cell alone is another one then. -/
theorem set_lks (l : List Lk) {i : Nat} (hi : i < l.length) (y : UInt64) : cellsE Elk (l.set i { lkAt l i with mask := y }) = (cellsE Elk l).set (i * 67 + 66) (num y) := by
  have hlen : (cellsE Elk (l.take i)).length = i * 67 := by rw [cellsE_length, List.length_take, Nat.min_eq_left (by omega)]; rfl
  rw [cellsE_set l hi, cellsE_cut l hi, List.set_append_right _ _ (by omega), hlen, Nat.add_sub_cancel_left, lkAt_in hi]
  have h1 : (Elk.enc l[i]).length = 67 := Elk.len _
  rw [List.set_append_left _ _ (by rw [h1]; decide)]
  congr 2
  show lkL { l[i] with mask := y } = (lkL l[i]).set 66 (num y)
  unfold lkL
  rw [List.set_append_right _ _ (by rw [Array.length_toList, cc_size]; decide), List.set_append_right _ _ (by rw [Array.length_toList, Array.length_toList, cc_size, cc_size]; decide), Array.length_toList, Array.length_toList, cc_size, cc_size]
  rfl
theorem ownK_put {w : World} {base g n cap : Nat} {l : List Lk} (h : OwnE Elk w base (.slice (some ⟨g, 0, none⟩) n cap) l) (hn : l.length = n) {i : Nat} (hi : i < n) (y : UInt64) : OwnE Elk (w.setCell ⟨g, i * 67 + 66, none⟩ (.int .u64 (y.toNat : Int))) base (.slice (some ⟨g, 0, none⟩) n cap) (l.set i { lkAt l i with mask := y }) := by
  subst hn
  unfold OwnE at h ⊢
  rw [set_lks l hi, List.length_set]
  exact (World.ownsRow.stored h (i * 67 + 66) (.int .u64 (y.toNat : Int))).1
theorem ownK_frozen {w : World} {base g n cap : Nat} {l : List Lk} (h : OwnE Elk w base (.slice (some ⟨g, 0, none⟩) n cap) l) (hn : l.length = n) (k : Nat) : w.frozen? ⟨g, k, none⟩ = false := by
  subst hn; exact World.ownsRow.frozenAt h k
theorem ownK_form {w : World} {base : Nat} {v : Value} {l : List Lk} {n : Nat} (h : OwnE Elk w base v l) (hn : l.length = n) (h0 : 0 < n) : ∃ g cap, v = .slice (some ⟨g, 0, none⟩) n cap ∧ base ≤ g := by
  subst hn
  rcases h.2 with ⟨_, e⟩ | ⟨g, cap, cur, e, hb, _⟩
  · have := cellsE_length Elk l
    have h67 : Elk.n = 67 := rfl
    rw [h67] at this
    first | omega | (simp at e; omega)
  · exact ⟨g, cap, e, hb⟩
theorem ownK_rg {w : World} {base g n cap : Nat} {l : List Lk} (h : OwnE Elk w base (.slice (some ⟨g, 0, none⟩) n cap) l) (hn : l.length = n) (h0 : 0 < n) : w.rangeAt g 0 (cellsE Elk l) := by
  obtain ⟨b1, o1, e, _, x⟩ := lks_ptr (ownE_slE h) (by omega)
  injection e with e
  injection e with e1 e2
  subst e1 e2
  exact x
/-- What a function of links answers. -/
def LksEr (l : List Lk) (n : Nat) (w : World) (e : Ending) (w' : World) : Prop := ∃ v : Value, e = .returned (.tuple #[v, .int .i64 (n : Int)]) ∧ SlE Elk w' v l ∧ Below w.heap.size w w'
theorem lk_lit1 (w : World) (x : Lk) (b : Nat) (hb : b = w.heap.size) : SlE Elk (w.alloc (.cells (lk x) 36)) (.slice (some ⟨b, 0, none⟩) 1 1) [x] :=
  slE_lit w _ 1 _ _ b rfl hb (by simp [cellsE, Elk, lk_list])
end Go.Proofs.Ytkbifcfgcokmlaa
