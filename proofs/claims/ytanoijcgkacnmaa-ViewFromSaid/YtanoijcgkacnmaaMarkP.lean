/-
  Marks that go up from leaf to leaf, plainly (layer 10).
-/
import Derived.Test.YtanoijcgkacnmaaGV
namespace Go.Proofs.Ytanoijcgkacnmaa

def markB (l : List Nd) (ys : List Nat) (i : Nat) : Bool := ys.any fun y => aboveT l i y
def upAt (l : List Nd) (i : Nat) (at' : Int) : Bool := if at' < 0 then false else aboveT l i at'.toNat
def wayB (l : List Nd) (ys : List Nat) (y : Nat) (at' : Int) (i : Nat) : Bool := markB l ys i || (aboveT l i y && !upAt l i at')
theorem mark_nil (l : List Nd) (i : Nat) : markB l [] i = false := rfl
theorem mark_snoc (l : List Nd) (ys : List Nat) (y i : Nat) : markB l (ys ++ [y]) i = (markB l ys i || aboveT l i y) := by
  unfold markB
  rw [List.any_append]
  simp
theorem upAt_nat (l : List Nd) (i a : Nat) : upAt l i (a : Int) = aboveT l i a := by unfold upAt; rw [if_neg (by omega)]; rfl
theorem way_begin (l : List Nd) (ys : List Nat) (y i : Nat) : wayB l ys y (y : Int) i = markB l ys i := by
  unfold wayB
  rw [upAt_nat]
  cases aboveT l i y <;> simp
theorem way_end (l : List Nd) (ys : List Nat) (y i : Nat) : wayB l ys y (-1) i = markB l (ys ++ [y]) i := by
  unfold wayB upAt
  rw [mark_snoc, if_pos (by omega)]
  simp
section
variable {l : List Nd}
theorem mark_up (h : MayT l) {ys : List Nat} (hys : ∀ y ∈ ys, y < l.length) {i a : Nat} (hi : aboveT l i a = true) (ha : markB l ys a = true) : markB l ys i = true := by
  unfold markB at ha ⊢
  obtain ⟨y, hy, e⟩ := List.any_eq_true.1 ha
  exact List.any_eq_true.2 ⟨y, hy, above_trans h hi y (hys y hy) e⟩
theorem way_is (h : MayT l) {ys : List Nat} {y a : Nat} (ha : a < l.length) : wayB l ys y (a : Int) a = markB l ys a := by
  unfold wayB
  rw [upAt_nat, above_refl h ha]
  simp
theorem way_stop (h : MayT l) {ys : List Nat} (hys : ∀ y ∈ ys, y < l.length) {y a : Nat} (hy : y < l.length) (hay : aboveT l a y = true) (hm : markB l ys a = true) (i : Nat) : wayB l ys y (a : Int) i = markB l (ys ++ [y]) i := by
  unfold wayB
  rw [mark_snoc, upAt_nat]
  cases e : aboveT l i y
  · rfl
  · rcases above_chain h y hy e hay with e1 | e1
    · rw [mark_up h hys e1 hm]; rfl
    · cases e2 : aboveT l i a
      · simp
      · rw [mark_up h hys e2 hm]; rfl
theorem way_step (h : MayT l) {ys : List Nat} {y a i : Nat} (ha : a < l.length) (hay : aboveT l a y = true) : wayB l ys y (nd l a).parent i = if i = a then true else wayB l ys y (a : Int) i := by
  unfold wayB
  rw [upAt_nat]
  by_cases h0 : a = 0
  · subst h0
    have e : (nd l 0).parent = -1 := h.first
    rw [e]
    by_cases hi : i = 0
    · subst hi; rw [if_pos rfl, hay]; simp [upAt]
    · rw [if_neg hi, above_zero, decide_eq_false hi]
      simp [upAt]
  · obtain ⟨e, hu, _⟩ := h.par (Nat.pos_of_ne_zero h0) ha
    rw [e, upAt_nat]
    by_cases hi : i = a
    · subst hi
      rw [if_pos rfl, hay]
      have : aboveT l i (up l i) = false := by
        rw [← Bool.not_eq_true]
        intro e
        have := above_le h i _ (by omega) e
        omega
      rw [this]
      simp
    · rw [if_neg hi]
      have : aboveT l i (up l a) = aboveT l i a := by
        rw [Bool.eq_iff_iff, above_iff h i (Nat.pos_of_ne_zero h0) ha]
        exact ⟨.inr, fun e => e.resolve_left hi⟩
      rw [this]
/-- Where the way goes on: nowhere, or at a node that is above the leaf. -/
theorem way_next (h : MayT l) {y a : Nat} (ha : a < l.length) (hy : y < l.length) (hay : aboveT l a y = true) : (nd l a).parent = -1 ∨ ∃ b : Nat, (nd l a).parent = (b : Int) ∧ b < a ∧ aboveT l b y = true := by
  by_cases h0 : a = 0
  · subst h0; exact .inl h.first
  · obtain ⟨e, hu, _⟩ := h.par (Nat.pos_of_ne_zero h0) ha
    exact .inr ⟨_, e, hu, above_trans h ((above_iff h _ (Nat.pos_of_ne_zero h0) ha).2 (.inr (above_refl h (by omega)))) y hy hay⟩
theorem mark_all {p : Nat → Bool} {just : Nat} {fin : Int} (hp : p = fun k : Nat => leafT l just fin (k : Int)) (i : Nat) : markB l ((List.range l.length).filter p) i = leadB l just fin i := by
  rw [Bool.eq_iff_iff, lead_iff]
  unfold markB
  rw [List.any_eq_true, hp]
  constructor
  · rintro ⟨k, hk, e⟩
    obtain ⟨h1, h2⟩ := List.mem_filter.1 hk
    exact ⟨k, List.mem_range.1 h1, e, h2⟩
  · rintro ⟨k, h1, e, h2⟩
    exact ⟨k, List.mem_filter.2 ⟨List.mem_range.2 h1, h2⟩, e⟩
end
end Go.Proofs.Ytanoijcgkacnmaa
