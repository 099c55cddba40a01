/-
  Attestations in memory.
-/
import Derived.Test.YtljehgohcchocaaLateP
import Derived.Test.YtljehgohcchocaaAaS
import Derived.Test.YtljehgohcchocaaMem
import Derived.Test.YtljehgohcchocaaElBig
namespace Go.Proofs.Ytljehgohcchocaa
open Go.RowKit
set_option maxRecDepth 100000
theorem atts_ptr {w : World} {p : Option Addr} {n cp : Nat} {l : List Aa} (h : SlE Eaa w (.slice p n cp) l) (h0 : 0 < l.length) : ∃ b o, p = some ⟨b, o, none⟩ ∧ b < w.heap.size ∧ w.rangeAt b o (cellsE Eaa l) := by
  obtain ⟨b, o, c, e, _, q, x⟩ := slE_ne h h0
  injection e with e1 e2 e3
  exact ⟨b, o, e1, q, x⟩
theorem atts_ld {w : World} {b off : Nat} {l : List Aa} (h : w.rangeAt b off (cellsE Eaa l)) {i : Nat} (hi : i < l.length) : ldA w (.pointer (some ⟨b, off + i * 100, none⟩)) 100 = some (aa (att l i)) := by
  have := ldA_at h hi
  rw [att_in hi]
  exact this.trans (by rw [show (Eaa.enc l[i]).toArray = aa l[i] from Array.toList_inj.1 (by rw [aa_list]; rfl)])
theorem atts_slot {w : World} {b off : Nat} {l : List Aa} (h : w.rangeAt b off (cellsE Eaa l)) {i : Nat} (hi : i < l.length) : w.cell? ⟨b, off + i * 100 + 1, none⟩ = some (.int .u64 (slA l i : Int)) := by
  have := aa_rd_slot (range_at h hi)
  unfold slA
  rw [att_in hi]
  exact this
theorem att_ext {l k : List Aa} (hl : l.length = k.length) (h : ∀ i, i < k.length → att l i = att k i) : l = k := by
  refine List.ext_getElem hl fun i h1 h2 => ?_
  have := h i h2
  rwa [att_in h1, att_in h2] at this
theorem KaaB : KnownB Try.prog Eaa 22 128 := ⟨Try.underlying22, .agg (aa zaa), info_aa, by show ((aa zaa)).size = _; exact aa_size _⟩
/-- A list of attestations is answered; one and an error's number; two. -/
def AttsIs (L : List Aa) (w : World) (e : Ending) (w' : World) : Prop := ∃ v, e = .returned v ∧ SlE Eaa w' v L ∧ Below w.heap.size w w'
def AttsEr (L : List Aa) (n : Nat) (w : World) (e : Ending) (w' : World) : Prop := ∃ v, e = .returned (.tuple #[v, .int .i64 (n : Int)]) ∧ SlE Eaa w' v L ∧ Below w.heap.size w w'
def AttsTwo (L K : List Aa) (w : World) (e : Ending) (w' : World) : Prop := ∃ v u, e = .returned (.tuple #[v, u]) ∧ SlE Eaa w' v L ∧ SlE Eaa w' u K ∧ Below w.heap.size w w'
theorem aa_lit1 (w : World) (x : Aa) (b : Nat) (hb : b = w.heap.size) : SlE Eaa (w.alloc (.cells (aa x) 29)) (.slice (some ⟨b, 0, none⟩) 1 1) [x] := slE_lit _ [x] 1 _ _ _ rfl hb (by simp [cellsE, Eaa, aa_list])
end Go.Proofs.Ytljehgohcchocaa
