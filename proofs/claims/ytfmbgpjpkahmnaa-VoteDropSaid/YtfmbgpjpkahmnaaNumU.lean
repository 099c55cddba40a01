/-
  Lists of numbers of 64 bits in memory.
-/
import Derived.Test.YtfmbgpjpkahmnaaNumS
import Derived.Test.YtfmbgpjpkahmnaaGM
import Derived.Test.YtfmbgpjpkahmnaaMem
namespace Go.Proofs.Ytfmbgpjpkahmnaa
open Go.RowKit

theorem nums_cell {w : World} {b off : Nat} {a : List UInt64} (h : w.rangeAt b off (cellsE Enum a)) {i : Nat} (hi : i < a.length) : w.cell? ⟨b, off + i, none⟩ = some (.int .u64 (fn a i : Int)) := by
  have := cell_at h hi (j := 0) (v := num a[i]) rfl
  rw [fn_at hi]
  simpa [Enum, num] using this
theorem num_nat {v : Nat} (h : v < 18446744073709551616) : num (UInt64.ofNat v) = .int .u64 (v : Int) := by
  unfold num
  rw [UInt64.toNat_ofNat', Nat.mod_eq_of_lt h]
theorem nums_ptr {w : World} {p : Option Addr} {n cp : Nat} {a : List UInt64} (h : SlE Enum w (.slice p n cp) a) (h0 : 0 < a.length) : ∃ b o, p = some ⟨b, o, none⟩ ∧ b < w.heap.size ∧ w.rangeAt b o (cellsE Enum a) := by
  obtain ⟨b, o, c, e, _, q, x⟩ := slE_ne h h0
  injection e with e1 e2 e3
  exact ⟨b, o, e1, q, x⟩
theorem nums_one (w : World) {v : Nat} (h : v < 18446744073709551616) (b : Nat) (hb : b = w.heap.size) : SlE Enum (w.alloc (.cells #[.int .u64 (v : Int)] 23)) (.slice (some ⟨b, 0, none⟩) 1 1) [UInt64.ofNat v] :=
  slE_lit w [UInt64.ofNat v] 1 _ _ b rfl hb (by simp [cellsE, Enum, num_nat h])
/-- A list and whether. -/
def NumsOk (a : List UInt64) (ok : Bool) (w : World) (e : Ending) (w' : World) : Prop := ∃ v : Value, e = .returned (.tuple #[v, .bool ok]) ∧ OwnE Enum w' w.heap.size v a ∧ Below w.heap.size w w'
end Go.Proofs.Ytfmbgpjpkahmnaa
