/-
  Lists of ints in memory: one read; what is answered.
-/
import Derived.Test.YtjjncaojicjfjaaIntS
import Derived.Test.YtjjncaojicjfjaaMem
namespace Go.Proofs.Ytjjncaojicjfjaa
open Go.RowKit
/-- Numbers are answered, in memory of the call's own. -/
def IntsIs (L : List Int) (w : World) (e : Ending) (w' : World) : Prop := ∃ v, e = .returned v ∧ OwnE Eint w' w.heap.size v L ∧ Below w.heap.size w w'
theorem ints_at {w : World} {b off : Nat} {a : List Int} (h : w.rangeAt b off (cellsE Eint a)) {i : Nat} (hi : i < a.length) : w.cell? ⟨b, off + i, none⟩ = some (.int .i64 (a.getD i 0)) := by
  have := cell_at h hi (j := 0) (v := .int .i64 a[i]) rfl
  rw [List.getD_eq_getElem?_getD, List.getElem?_eq_getElem hi]
  simpa [Eint] using this
theorem ints_ptr {w : World} {p : Option Addr} {n cp : Nat} {a : List Int} (h : SlE Eint w (.slice p n cp) a) (h0 : 0 < a.length) : ∃ b o, p = some ⟨b, o, none⟩ ∧ b < w.heap.size ∧ w.rangeAt b o (cellsE Eint a) := by
  obtain ⟨b, o, c, e, _, q, x⟩ := slE_ne h h0
  injection e with e1 e2 e3
  exact ⟨b, o, e1, q, x⟩
/-- Ints are answered, in whatever memory. -/
def ListIs (L : List Int) (w : World) (e : Ending) (w' : World) : Prop := ∃ v, e = .returned v ∧ SlE Eint w' v L ∧ Below w.heap.size w w'
theorem IntsIs.list {L : List Int} {w w' : World} {e : Ending} (h : IntsIs L w e w') : ListIs L w e w' := by
  obtain ⟨v, h1, h2, h3⟩ := h
  exact ⟨v, h1, ownE_slE h2, h3⟩
end Go.Proofs.Ytjjncaojicjfjaa
