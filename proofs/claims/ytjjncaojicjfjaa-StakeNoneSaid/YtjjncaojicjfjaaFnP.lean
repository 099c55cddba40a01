/-
  Lists of numbers of 64 bits, plainly; no word of the program.
-/
import Derived.Below
namespace Go.Proofs.Ytjjncaojicjfjaa

/-- Number k of a list; 0 behind its end. -/
def fn (a : List UInt64) (k : Nat) : Nat := (a.getD k 0).toNat
theorem fn_lt (a : List UInt64) (k : Nat) : fn a k < 18446744073709551616 := (a.getD k 0).toNat_lt
theorem fn_at {a : List UInt64} {k : Nat} (h : k < a.length) : fn a k = a[k].toNat := by unfold fn; simp [h]
theorem fn_ext {a b : List UInt64} (hl : a.length = b.length) (h : ∀ k, k < b.length → fn a k = fn b k) : a = b := by
  refine List.ext_getElem hl fun k h1 h2 => UInt64.toNat_inj.1 ?_
  have := h k h2
  rwa [fn_at h1, fn_at h2] at this
/-- A list of so many numbers. -/
def numsT (f : Nat → Nat) (n : Nat) : List UInt64 := (List.range n).map fun i => UInt64.ofNat (f i)
theorem nums_len (f : Nat → Nat) (n : Nat) : (numsT f n).length = n := by simp [numsT]
theorem nums_succ (f : Nat → Nat) (n : Nat) : numsT f (n + 1) = numsT f n ++ [UInt64.ofNat (f n)] := by simp [numsT, List.range_succ]
theorem fn_nums {f : Nat → Nat} {n k : Nat} (hk : k < n) (hf : f k < 18446744073709551616) : fn (numsT f n) k = f k := by
  unfold fn numsT
  rw [List.getD_eq_getElem?_getD, List.getElem?_map, List.getElem?_range hk]
  simp only [Option.map_some, Option.getD_some, UInt64.toNat_ofNat']
  omega
theorem fn_zeros (n k : Nat) : fn (List.replicate n 0) k = 0 := by
  unfold fn
  rw [List.getD_eq_getElem?_getD, List.getElem?_replicate]
  split <;> rfl
end Go.Proofs.Ytjjncaojicjfjaa
