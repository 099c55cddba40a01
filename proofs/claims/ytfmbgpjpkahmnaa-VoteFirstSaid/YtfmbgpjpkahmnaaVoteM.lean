/-
  Votes in memory.
-/
import Derived.Test.YtfmbgpjpkahmnaaVoteP
import Derived.Test.YtfmbgpjpkahmnaaLtS
import Derived.Test.YtfmbgpjpkahmnaaVo
import Derived.Test.YtfmbgpjpkahmnaaGD
import Derived.Test.YtfmbgpjpkahmnaaNumU
namespace Go.Proofs.Ytfmbgpjpkahmnaa
open Go.RowKit
theorem lats_ptr {w : World} {p : Option Addr} {n cp : Nat} {l : List Lt} (h : SlE Elt w (.slice p n cp) l) (h0 : 0 < l.length) : ∃ b o, p = some ⟨b, o, none⟩ ∧ b < w.heap.size ∧ w.rangeAt b o (cellsE Elt l) := by
  obtain ⟨b, o, c, e, _, q, x⟩ := slE_ne h h0
  injection e with e1 e2 e3
  exact ⟨b, o, e1, q, x⟩
theorem lats_ld {w : World} {b off : Nat} {l : List Lt} (h : w.rangeAt b off (cellsE Elt l)) {i : Nat} (hi : i < l.length) : ldA w (.pointer (some ⟨b, off + i * 34, none⟩)) 34 = some (lt (lat l i)) := by
  have := ldA_at h hi
  rw [lat_in hi]
  exact this.trans (by rw [show (Elt.enc l[i]).toArray = lt l[i] from Array.toList_inj.1 (by rw [lt_list]; rfl)])
theorem lats_has {w : World} {b off : Nat} {l : List Lt} (h : w.rangeAt b off (cellsE Elt l)) {i : Nat} (hi : i < l.length) : w.cell? ⟨b, off + i * 34, none⟩ = some (.bool (lat l i).has) := by
  have := lt_rd_has (range_at h hi)
  rw [lat_in hi]
  exact this
theorem lats_root {w : World} {b off : Nat} {l : List Lt} (h : w.rangeAt b off (cellsE Elt l)) {i : Nat} (hi : i < l.length) : ldA w (.pointer (some ⟨b, off + i * 34 + 1, none⟩)) 32 = some (rc (lat l i).root) := by
  have := lt_rd_root (range_at h hi)
  rw [lat_in hi]
  exact this
theorem lt_cells {w : World} {g : Nat} {x : Lt} (h : w.heap[g]? = some (.cells (lt x) 41 (0, 0))) : w.cell? ⟨g, 0, none⟩ = some (.bool x.has) ∧ ldA w (.pointer (some ⟨g, 1, none⟩)) 32 = some (rc x.root) ∧ w.cell? ⟨g, 33, none⟩ = some (.int .u64 (x.epoch.toNat : Int)) ∧ ldA w (.pointer (some ⟨g, 0, none⟩)) 34 = some (lt x) ∧ g < w.heap.size :=
  ⟨lt_rd0_has h, lt_rd0_root h, lt_rd0_epoch h, ldA_block h (lt_size x), (Array.getElem?_eq_some_iff.1 h).1⟩
theorem vo_cells {w : World} {g : Nat} {x : Vo} (h : w.heap[g]? = some (.cells (vo x) 25 (0, 0))) : w.cell? ⟨g, 0, none⟩ = some (sv x.l) ∧ w.cell? ⟨g, 1, none⟩ = some (.int .u64 (x.out.toNat : Int)) ∧ ldA w (.pointer (some ⟨g, 0, none⟩)) 2 = some (vo x) ∧ g < w.heap.size :=
  ⟨vo_rd0_l h, vo_rd0_out h, ldA_block h (vo_size x), (Array.getElem?_eq_some_iff.1 h).1⟩
theorem sv_lenT {w : World} {s : SlV} {l : List Lt} (h : SlE Elt w (sv s) l) : l.length = s.len := by
  obtain ⟨p', cap', e, _⟩ := slE_shape h
  unfold sv at e; injection e with _ e; exact e.symm
theorem heap_putV {w : World} {g : Nat} {c r : Array Value} {t : TypeId} (hg : w.heap[g]? = some (.cells c t (0, 0))) (h : r.size = c.size) : (stA w (.pointer (some ⟨g, 0, none⟩)) (.agg r)).heap[g]? = some (.cells r t (0, 0)) := by
  rw [heap_stA_same hg (by omega)]
  congr 2
  apply Array.toList_inj.1
  unfold putSeg
  simp only [List.take_zero, List.nil_append, Nat.zero_add]
  rw [List.drop_of_length_le (by rw [Array.length_toList]; omega), List.append_nil]
theorem ownT_form {w : World} {base : Nat} {v : Value} {b : List Lt} {n : Nat} (h : OwnE Elt w base v b) (hn : b.length = n) (h0 : 0 < n) : ∃ g cap, v = .slice (some ⟨g, 0, none⟩) n cap ∧ base ≤ g := by
  subst hn
  rcases h.2 with ⟨_, e⟩ | ⟨g, cap, cur, e, hb, _⟩
  · omega
  · exact ⟨g, cap, e, hb⟩
/-- Votes are answered. -/
def VoIs (v : Vt) (w : World) (e : Ending) (w' : World) : Prop := ∃ s : SlV, e = .returned (.agg (vo ⟨s, v.out⟩)) ∧ SlE Elt w' (sv s) v.l ∧ Below w.heap.size w w'
def VoOk (v : Vt) (b : Bool) (w : World) (e : Ending) (w' : World) : Prop := ∃ s : SlV, e = .returned (.tuple #[.agg (vo ⟨s, v.out⟩), .bool b]) ∧ SlE Elt w' (sv s) v.l ∧ Below w.heap.size w w'
def VoEr (v : Vt) (k n : Nat) (w : World) (e : Ending) (w' : World) : Prop := ∃ s : SlV, e = .returned (.tuple #[.agg (vo ⟨s, v.out⟩), .int .i64 (k : Int), .int .i64 (n : Int)]) ∧ SlE Elt w' (sv s) v.l ∧ Below w.heap.size w w'
end Go.Proofs.Ytfmbgpjpkahmnaa
