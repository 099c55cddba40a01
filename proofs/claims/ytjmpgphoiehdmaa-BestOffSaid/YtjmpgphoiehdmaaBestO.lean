/-
  A row of bools of the call's own, one put; the head where one leads on no more: what law BestOff wants.
-/
import Derived.Test.YtjmpgphoiehdmaaBestK
import Derived.Laws.OwnMore
import Derived.Deep.AppendLies
namespace Go.Proofs.Ytjmpgphoiehdmaa
open Go.RowKit
theorem set_boos (b : List Bool) (x : Bool) (h : Nat) : cellsE Eboo (b.set h x) = (cellsE Eboo b).set h (.bool x) := by
  induction b generalizing h with
  | nil => rfl
  | cons y b ih => cases h with
    | zero => rfl
    | succ h => show Value.bool y :: cellsE Eboo (b.set h x) = _; rw [ih]; rfl
/-- A bool put in a row of one's own. -/
theorem own_put {w : World} {base g n cap : Nat} {b : List Bool} (h : OwnE Eboo w base (.slice (some ⟨g, 0, none⟩) n cap) b) (hn : b.length = n) (k : Nat) (x : Bool) : OwnE Eboo (w.setCell ⟨g, k, none⟩ (.bool x)) base (.slice (some ⟨g, 0, none⟩) n cap) (b.set k x) := by
  subst hn
  unfold OwnE at h ⊢
  rw [set_boos, List.length_set]
  exact (World.ownsRow.stored h k (.bool x)).1
theorem own_frozen {w : World} {base g n cap : Nat} {b : List Bool} (h : OwnE Eboo w base (.slice (some ⟨g, 0, none⟩) n cap) b) (hn : b.length = n) (k : Nat) : w.frozen? ⟨g, k, none⟩ = false := by
  subst hn; exact World.ownsRow.frozenAt h k
theorem own_cell {w : World} {base g n cap : Nat} {b : List Bool} (h : OwnE Eboo w base (.slice (some ⟨g, 0, none⟩) n cap) b) {k : Nat} (hk : k < b.length) : w.cell? ⟨g, k, none⟩ = some (.bool (bn b k)) := by
  obtain ⟨b1, o1, e, _, x⟩ := boos_ptr (ownE_slE h) (by omega)
  injection e with e
  injection e with e1 e2
  subst e1 e2
  have := boos_cell x hk
  rwa [Nat.zero_add] at this
theorem own_form {w : World} {base : Nat} {v : Value} {b : List Bool} {n : Nat} (h : OwnE Eboo w base v b) (hn : b.length = n) (h0 : 0 < n) : ∃ g cap, v = .slice (some ⟨g, 0, none⟩) n cap ∧ base ≤ g := by
  subst hn
  rcases h.2 with ⟨_, e⟩ | ⟨g, cap, cur, e, hb, _⟩
  · omega
  · exact ⟨g, cap, e, hb⟩
section
variable {l : List Nd} {a : List UInt64} {b : List Bool}
theorem bn_off {h k : Nat} (e : bn (b.set h false) k = true) : bn b k = true := by
  unfold bn at e ⊢
  rw [List.getD_eq_getElem?_getD, List.getElem?_set] at e
  rw [List.getD_eq_getElem?_getD]
  split at e
  · split at e
    · cases e
    · cases e
  · exact e
theorem bn_self (h : Nat) : bn (b.set h false) h = false := by
  unfold bn
  rw [List.getD_eq_getElem?_getD, List.getElem?_set]
  simp
  split <;> rfl
theorem law_offN (ht : toldB l a b = true) {i : Nat} (hi : i < l.length) : headN l a b i < l.length ∧ headZ l a (b.set (headN l a b i) false) (i : Int) = (headN l a (b.set (headN l a b i) false) i : Int) ∧ headZ l a (b.set (headN l a b i) false) (headN l a b i : Int) = (headN l a b i : Int) ∧ (headN l a (b.set (headN l a b i) false) i ≠ headN l a b i ↔ headN l a b i ≠ i) := by
  obtain ⟨hm, h1, h2⟩ := told_iff.1 ht
  have hh : headN l a b i < l.length := (law_head (w := fn a) (leads := bn b) ltS hm _ i rfl hi).1
  have ht2 : toldB l a (b.set (headN l a b i) false) = true := told_iff.2 ⟨hm, h1, by rw [List.length_set, h2]⟩
  obtain ⟨x, y⟩ := law_off (w := fn a) (leads := bn b) (off := bn (b.set (headN l a b i) false)) ltS hm hi (fun k e => bn_off e) (bn_self (b := b) (headN l a b i))
  exact ⟨hh, headZ_nat ht2 hi, by rw [headZ_nat ht2 hh]; exact congrArg _ y, x⟩
theorem headZ_ge (i : Int) : -1 ≤ headZ l a b i := by
  unfold headZ
  split
  · exact Int.le_trans (by decide) (Int.natCast_nonneg _)
  · exact Int.le_refl _
end
end Go.Proofs.Ytjmpgphoiehdmaa
