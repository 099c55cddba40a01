/-
  Ancestors by leaps, at places as the program has them (Int); leaps of 1, 2, 4 and 8; no word of the program.
-/
import Derived.Test.YtnmljjmaejmlfaaSkipP
import Derived.Test.YtnmljjmaejmlfaaTreeZ
namespace Go.Proofs.Ytnmljjmaejmlfaa

def upZ (l : List Nd) (i n : Int) : Int := if isT l i = true ∧ 0 ≤ n then upT l n.toNat i.toNat else -1
def deepZ (l : List Nd) (i : Int) : Int := if isT l i = true then (deepT l i.toNat : Int) else -1
def meetZ (l : List Nd) (a b : Int) : Int := if isT l a = true ∧ isT l b = true then meetT l a.toNat b.toNat else -1
/-- The leap number k of a node: Up by 2 to the k. -/
def leapT (l : List Nd) (i k : Nat) : Int := upT l (2 ^ k) i
/-- Four leaps. -/
structure Quad where
  a : Int
  b : Int
  c : Int
  d : Int
  deriving DecidableEq
def quadT (l : List Nd) (i : Nat) : Quad := ⟨leapT l i 0, leapT l i 1, leapT l i 2, leapT l i 3⟩
def tabUp (l : List Nd) (j : Nat) : List Quad := (List.range j).map (quadT l)
def tabT (l : List Nd) : List Quad := if MayT l then tabUp l l.length else []
section
variable {l : List Nd}
theorem upZ_nat (h : MayT l) {i : Nat} (hi : i < l.length) (n : Nat) : upZ l (i : Int) (n : Int) = upT l n i := by
  unfold upZ
  rw [if_pos ⟨isT_nat h hi, by omega⟩, Int.toNat_natCast, Int.toNat_natCast]
theorem deepZ_nat (h : MayT l) {i : Nat} (hi : i < l.length) : deepZ l (i : Int) = deepT l i := by
  unfold deepZ
  rw [if_pos (isT_nat h hi), Int.toNat_natCast]
theorem meetZ_nat (h : MayT l) {a b : Nat} (ha : a < l.length) (hb : b < l.length) : meetZ l (a : Int) (b : Int) = meetT l a b := by
  unfold meetZ
  rw [if_pos ⟨isT_nat h ha, isT_nat h hb⟩, Int.toNat_natCast, Int.toNat_natCast]
theorem tabUp_succ (l : List Nd) (j : Nat) : tabUp l (j + 1) = tabUp l j ++ [quadT l j] := by
  unfold tabUp
  rw [List.range_succ, List.map_append]
  rfl
theorem tabUp_len (l : List Nd) (j : Nat) : (tabUp l j).length = j := by unfold tabUp; simp
theorem tab_len (h : MayT l) : (tabT l).length = l.length := by unfold tabT; rw [if_pos h, tabUp_len]
theorem tab_at (h : MayT l) {i : Nat} (hi : i < l.length) : (tabT l)[i]? = some (quadT l i) := by
  unfold tabT tabUp
  rw [if_pos h, List.getElem?_map, List.getElem?_range hi]
  rfl
/-! ### SkipLeaps -/
theorem leap_first (h : MayT l) {i : Nat} (hi : i < l.length) : leapT l i 0 = (nd l i).parent := up_one h hi
theorem leap_two (h : MayT l) {i : Nat} (hi : i < l.length) (k : Nat) : (leapT l i k = -1 ∧ leapT l i (k + 1) = -1) ∨ ∃ x : Nat, leapT l i k = x ∧ x < l.length ∧ leapT l i (k + 1) = leapT l x k := by
  unfold leapT
  rw [Nat.pow_succ, Nat.mul_two]
  rcases up_spec h (2 ^ k) i hi with ⟨_, x, e, hx, _⟩ | ⟨_, e⟩
  · exact .inr ⟨x, e, hx, up_add h _ _ _ _ hi e⟩
  · exact .inl ⟨e, up_none h hi e⟩
theorem leap_bd (h : MayT l) {i : Nat} (hi : i < l.length) (k : Nat) : -1 ≤ leapT l i k ∧ leapT l i k < l.length := by
  unfold leapT
  rcases up_spec h (2 ^ k) i hi with ⟨_, x, e, hx, _⟩ | ⟨_, e⟩
  · rw [e]; omega
  · rw [e]; omega
/-! ### One step at a time -/
theorem upT_zero (i : Nat) : upT l 0 i = i := by unfold upT; rfl
theorem upZ_not {i n : Int} (hk : isT l i = false ∨ n < 0) : upZ l i n = -1 := by
  unfold upZ
  rw [if_neg]
  rintro ⟨h1, h2⟩
  rcases hk with h | h
  · rw [h] at h1; cases h1
  · omega
end
end Go.Proofs.Ytnmljjmaejmlfaa
