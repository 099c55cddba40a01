/-
  The document's Run of rings, walked.
-/
import Derived.Test.YtmcnpefnebehfaaRingJ
namespace Go.Proofs.Ytmcnpefnebehfaa
open Go.RowKit

/-- What the document's Run answers. -/
def RRunIs (c : Int) (l ns : List Int) (w : World) (e : Ending) (w' : World) : Prop := ∃ v u, e = .returned (.tuple #[.agg #[.int .i64 c, v], u]) ∧ SlI w' v (goL c l ns) ∧ SlI w' u (goT c l ns) ∧ Below w.heap.size w w'
theorem enters_refPush : ∀ args w, (callFunc 11 args).run Try.prog w = .ok (.enter 11 args) w := entersI Try.func11 (by kernel_rfl) (by kernel_rfl)

/-- The slice v, if it has any numbers, lies neither in the blocks from b0 up to b1 nor where the row u does. -/
def Apt (v u : Value) (b0 b1 : Nat) : Prop := ∀ p n cap b, v = .slice p n cap → n ≠ 0 → v.ownBlock = some b → (b < b0 ∨ b1 ≤ b) ∧ u.ownBlock ≠ some b
theorem slI_lt {w : World} {v : Value} {l : List Int} (h : SlI w v l) {p : Option Addr} {n cap b : Nat} (e : v = .slice p n cap) (hn : n ≠ 0) (hb : v.ownBlock = some b) : b < w.heap.size := by
  have hl : 0 < l.length := by
    obtain ⟨p', cap', e', _⟩ := slI_shape h
    rw [e] at e'; injection e' with _ e' _; omega
  obtain ⟨b', off, cap', rfl, _, h1, _⟩ := slI_ne h hl
  have : b' = b := Option.some.inj hb
  subst this; exact h1
theorem slI_apt {w w' : World} {v u : Value} {b0 b1 : Nat} {l : List Int} (h : SlI w v l) (ha : Apt v u b0 b1) (hs : w.heap.size ≤ w'.heap.size) (hb : ∀ b, b < w.heap.size → (b < b0 ∨ b1 ≤ b) → u.ownBlock ≠ some b → w'.heap[b]? = w.heap[b]?) : SlI w' v l := by
  by_cases hl : l = []
  · subst hl
    obtain ⟨p, cap, rfl, _⟩ := h
    exact slI_nil _ _ _
  · obtain ⟨p, cap, e, _⟩ := slI_shape h
    refine slI_block h hs fun b hlt ho => ?_
    obtain ⟨h1, h2⟩ := ha p l.length cap b e (fun e => hl (List.length_eq_zero_iff.1 e)) ho
    exact hb b hlt h1 h2
/-- Behind a call that answers the slice that it was handed, or a new one. -/
theorem apt_call {w : World} {v v' u : Value} {b0 b1 base : Nat} {t : List Int} (ha : Apt v u b0 b1) (hv : v' = v ∨ ∀ k, v'.ownBlock = some k → w.heap.size ≤ k) (hb : b1 ≤ w.heap.size) (ho : OwnI w base u t) : Apt v' u b0 b1 := by
  rcases hv with rfl | hv
  · exact ha
  · intro p n cap b _ _ hk
    have := hv b hk
    refine ⟨by omega, fun e => ?_⟩
    have := (World.ownsRow.lt ho b e).2
    omega
/-- Behind an append onto the row. -/
theorem apt_grow {w w' : World} {v u u' : Value} {b0 b1 : Nat} {l : List Int} (ha : Apt v u b0 b1) (h : SlI w v l) (g : GrI w u w' u') : Apt v u' b0 b1 := by
  intro p n cap b e hn hb
  obtain ⟨h1, h2⟩ := ha p n cap b e hn hb
  refine ⟨h1, ?_⟩
  rcases g.2 with g2 | g2
  · rw [g2]; exact h2
  · intro e2
    have := g2 b e2
    have := slI_lt h e hn hb
    omega
theorem slI_grow {w w' : World} {v u u' : Value} {b0 b1 : Nat} {l : List Int} (ha : Apt v u b0 b1) (h : SlI w v l) (g : GrI w u w' u') : SlI w' v l :=
  slI_apt h ha g.1.size fun _ hlt _ hu => g.block hlt hu

/-- The memory of Run's loop: its ring in block b0, its result's in the next one, its row. -/
structure RunM (w : World) (b0 : Nat) (c : Int) (k t : List Int) (v u : Value) : Prop where
  m : w.heap[b0]? = some (.cells #[.int .i64 c, v] 24 (0, 0))
  n : w.heap[b0 + 1]? = some (.cells #[.int .i64 0, .slice none 0 0] 24 (0, 0))
  s : SlI w v k
  a : Apt v u b0 (b0 + 2)
  o : OwnI w (b0 + 2) u t
theorem RunM.call {w w' : World} {b0 : Nat} {c : Int} {k k' t : List Int} {v v' u : Value} (h : RunM w b0 c k t v u) (g : Below w.heap.size w w') (hs : SlI w' v' k') (hv : v' = v ∨ ∀ q, v'.ownBlock = some q → w.heap.size ≤ q) :
    SlI w' v' k' ∧ Apt v' u b0 (b0 + 2) ∧ OwnI w' (b0 + 2) u t ∧ w'.heap[b0]? = some (.cells #[.int .i64 c, v] 24 (0, 0)) ∧ w'.heap[b0 + 1]? = some (.cells #[.int .i64 0, .slice none 0 0] 24 (0, 0)) :=
  ⟨hs, apt_call h.a hv (by have := (Array.getElem?_eq_some_iff.1 h.n).1; omega) h.o, ownI_keep g h.o, blk_keep g h.m, blk_keep g h.n⟩
/-- The ring is stored anew. -/
theorem RunM.store {w : World} {b0 : Nat} {c : Int} {k t : List Int} {v v' u : Value} (hs : SlI w v' k) (ha : Apt v' u b0 (b0 + 2)) (ho : OwnI w (b0 + 2) u t) (hm : w.heap[b0]? = some (.cells #[.int .i64 c, v] 24 (0, 0))) (hn : w.heap[b0 + 1]? = some (.cells #[.int .i64 0, .slice none 0 0] 24 (0, 0))) :
    RunM ((w.setCell ⟨b0, 0, none⟩ (.int .i64 c)).setCell ⟨b0, 1, none⟩ v') b0 c k t v' u := by
  have hb : ∀ b, b ≠ b0 → ((w.setCell ⟨b0, 0, none⟩ (.int .i64 c)).setCell ⟨b0, 1, none⟩ v').heap[b]? = w.heap[b]? := fun b hb => by
    rw [Below.heap_setCell _ _ _ _ (show b ≠ b0 from hb), Below.heap_setCell _ _ _ _ (show b ≠ b0 from hb)]
  refine ⟨heap_setI (heap_setI hm 0 _) 1 _, by rw [hb _ (by omega)]; exact hn, slI_apt hs ha (by simp [World.setCell]) fun _ _ h1 _ => hb _ (by omega), ha, ownI_set (ownI_set ho (by omega) _) (by omega) _⟩
/-- A new block, and a number onto the row. -/
theorem RunM.grow {w w' : World} {b0 : Nat} {c : Int} {k t t' : List Int} {v u u' : Value} (h : RunM w b0 c k t v u) (g : GrI w u w' u') (ho : OwnI w' (b0 + 2) u' t') : RunM w' b0 c k t' v u' := by
  have hu : ∀ b, b < b0 + 2 → u.ownBlock ≠ some b := fun b hb e => by have := (World.ownsRow.lt h.o b e).1; omega
  exact ⟨g.heap h.m (hu _ (by omega)), g.heap h.n (hu _ (by omega)), slI_grow h.a h.s g, apt_grow h.a h.s g, ho⟩
theorem RunM.alloc {w : World} {b0 : Nat} {c : Int} {k t : List Int} {v u : Value} (h : RunM w b0 c k t v u) (o : Obj) : RunM (w.alloc o) b0 c k t v u :=
  ⟨heap_keepA h.m, heap_keepA h.n, slI_keep ((Below.refl _ _).alloc (Nat.le_refl _) _) h.s, h.a, ownI_alloc h.o _⟩
theorem RunM.drew {w : World} {b0 : Nat} {c : Int} {k t : List Int} {v u : Value} (h : RunM w b0 c k t v u) (n : Nat) : RunM (w.drewN n) b0 c k t v u :=
  ⟨h.m, h.n, slI_keep (belowD (Below.refl _ _) _) h.s, h.a, h.o⟩
/-- A world behind some world, with some new blocks. -/
theorem RunM.below {w w' : World} {b0 : Nat} {c : Int} {k t : List Int} {v u : Value} (h : RunM w b0 c k t v u) (g : Below w.heap.size w w') : RunM w' b0 c k t v u :=
  ⟨blk_keep g h.m, blk_keep g h.n, slI_keep g h.s, h.a, ownI_keep g h.o⟩

/-- The result's block is written. -/
theorem RunM.result {w : World} {b0 : Nat} {c : Int} {k t : List Int} {v u : Value} (h : RunM w b0 c k t v u) :
    SlI ((w.setCell ⟨b0 + 1, 0, none⟩ (.int .i64 c)).setCell ⟨b0 + 1, 1, none⟩ v) v k ∧ SlI ((w.setCell ⟨b0 + 1, 0, none⟩ (.int .i64 c)).setCell ⟨b0 + 1, 1, none⟩ v) u t := by
  have hb : ∀ b, b ≠ b0 + 1 → ((w.setCell ⟨b0 + 1, 0, none⟩ (.int .i64 c)).setCell ⟨b0 + 1, 1, none⟩ v).heap[b]? = w.heap[b]? := fun b hb => by
    rw [Below.heap_setCell _ _ _ _ (show b ≠ b0 + 1 from hb), Below.heap_setCell _ _ _ _ (show b ≠ b0 + 1 from hb)]
  exact ⟨slI_apt h.s h.a (by simp [World.setCell]) fun _ _ h1 _ => hb _ (by omega), ownI_slI (ownI_set (ownI_set h.o (by omega) _) (by omega) _)⟩
theorem new_drew (w : World) (o : Obj) (n : Nat) : ((w.alloc o).drewN n).heap[w.heap.size]? = some o := heap_alloc_last w o
/-- A variable of the ring that a call answered, wherever its block came up. -/
def CallS (wr : World) (c : Int) (v : Value) (k2 : List Int) (s : Value) (wx : World) : Prop :=
  ∃ g v2, s = .pointer (some ⟨g, 0, none⟩) ∧ wx.heap[g]? = some (.cells #[.int .i64 c, v2] 24 (0, 0)) ∧ SlI wx v2 k2 ∧ (v2 = v ∨ ∀ q, v2.ownBlock = some q → wr.heap.size ≤ q) ∧ Below wr.heap.size wr wx ∧ wr.heap.size ≤ g
theorem callS_old {wr w2 : World} {n : Nat} {c : Int} {v v2 : Value} {k k2 : List Int} (h : SlI wr v k) (hs2 : SlI w2 v2 k2) (ha2 : v2 = v ∨ ∀ q, v2.ownBlock = some q → ((wr.alloc (.cells #[.int .i64 0, .slice none 0 0] 24)).drewN n).heap.size ≤ q)
    (g2 : Below ((wr.alloc (.cells #[.int .i64 0, .slice none 0 0] 24)).drewN n).heap.size ((wr.alloc (.cells #[.int .i64 0, .slice none 0 0] 24)).drewN n) w2) :
    CallS wr c v k2 (.pointer (some ⟨wr.heap.size, 0, none⟩)) ((w2.setCell ⟨wr.heap.size, 0, none⟩ (.int .i64 c)).setCell ⟨wr.heap.size, 1, none⟩ v2) := by
  have hz : ((wr.alloc (.cells #[.int .i64 0, .slice none 0 0] 24)).drewN n).heap.size = wr.heap.size + 1 := by show (wr.alloc _).heap.size = _; simp
  have hn := blk_keep g2 (new_drew wr _ n)
  have hb : ∀ b, b ≠ wr.heap.size → ((w2.setCell ⟨wr.heap.size, 0, none⟩ (.int .i64 c)).setCell ⟨wr.heap.size, 1, none⟩ v2).heap[b]? = w2.heap[b]? := fun b hb => by
    rw [Below.heap_setCell _ _ _ _ (show b ≠ wr.heap.size from hb), Below.heap_setCell _ _ _ _ (show b ≠ wr.heap.size from hb)]
  have ha : Apt v2 (.slice none 0 0) wr.heap.size (wr.heap.size + 1) := by
    intro p m cap b e hm hq
    refine ⟨?_, fun e => by cases e⟩
    rcases ha2 with rfl | ha2
    · have := slI_lt h e hm hq; omega
    · have := ha2 b hq; omega
  refine ⟨_, v2, rfl, heap_setI (heap_setI hn 0 _) 1 _, slI_apt hs2 ha (by simp [World.setCell]) fun _ _ h1 _ => hb _ (by omega), ha2.imp id fun h q hq => by have := h q hq; omega, ?_, Nat.le_refl _⟩
  exact ((belowT (belowD ((Below.refl _ _).alloc (Nat.le_refl _) _) n) g2).setCell (by show wr.heap.size ≤ wr.heap.size; omega) _).setCell (by show wr.heap.size ≤ wr.heap.size; omega) _
theorem callS_new {wr w2 : World} {n : Nat} {c : Int} {v v2 : Value} {k2 : List Int} (hs2 : SlI w2 v2 k2) (ha2 : v2 = v ∨ ∀ q, v2.ownBlock = some q → (wr.drewN n).heap.size ≤ q) (g2 : Below (wr.drewN n).heap.size (wr.drewN n) w2) :
    CallS wr c v k2 (.pointer (some ⟨w2.heap.size, 0, none⟩)) (w2.alloc (.cells #[.int .i64 c, v2] 24)) :=
  ⟨_, v2, rfl, heap_alloc_last _ _, slI_keep ((Below.refl _ _).alloc (Nat.le_refl _) _) hs2, ha2, (belowT (belowD (Below.refl _ _) n) g2).alloc (by have := g2.size; exact this) _, g2.size⟩
end Go.Proofs.Ytmcnpefnebehfaa
