/-
  The best way down at whatever places, by lists of weights and of who leads on; what the laws of layer 9 want of it; no word of the program.
-/
import Derived.Test.YtjmpgphoiehdmaaBestP
import Derived.Test.YtjmpgphoiehdmaaGT
import Derived.Test.YtjmpgphoiehdmaaGI
import Derived.Test.YtjmpgphoiehdmaaLess
namespace Go.Proofs.Ytjmpgphoiehdmaa

theorem ltS : Strict lessR := ⟨strict_less.1, strict_less.2.1, strict_less.2.2⟩
def ToldT (l : List Nd) (w : List UInt64) (b : List Bool) : Prop := MayT l ∧ w.length = l.length ∧ b.length = l.length
instance (l : List Nd) (w : List UInt64) (b : List Bool) : Decidable (ToldT l w b) := by unfold ToldT; exact inferInstance
def toldB (l : List Nd) (w : List UInt64) (b : List Bool) : Bool := decide (ToldT l w b)
def optZ : Option Nat → Int
  | none => -1
  | some k => (k : Int)
theorem optZ_none : optZ none = -1 := rfl
theorem optZ_some (k : Nat) : optZ (some k) = (k : Int) := rfl
def bestN (l : List Nd) (w : List UInt64) (b : List Bool) (i : Nat) : Option Nat := bestT l lessR (fn w) (bn b) i
def wayN (l : List Nd) (w : List UInt64) (b : List Bool) (i : Nat) : List Nat := wayT l lessR (fn w) (bn b) i
def headN (l : List Nd) (w : List UInt64) (b : List Bool) (i : Nat) : Nat := headT l lessR (fn w) (bn b) i
def placeB (l : List Nd) (w : List UInt64) (b : List Bool) (i : Int) : Bool := toldB l w b && (decide (0 ≤ i) && decide (i < l.length))
def kidZ (l : List Nd) (w : List UInt64) (b : List Bool) (i : Int) : Int := if placeB l w b i = true then optZ (bestN l w b i.toNat) else -1
def wayZ (l : List Nd) (w : List UInt64) (b : List Bool) (i : Int) : List Int := if placeB l w b i = true then (wayN l w b i.toNat).map (fun k : Nat => (k : Int)) else []
def headZ (l : List Nd) (w : List UInt64) (b : List Bool) (i : Int) : Int := if placeB l w b i = true then (headN l w b i.toNat : Int) else -1
section
variable {l : List Nd} {w : List UInt64} {b : List Bool}
theorem told_iff : toldB l w b = true ↔ MayT l ∧ w.length = l.length ∧ b.length = l.length := by
  unfold toldB
  rw [decide_eq_true_iff]
  exact Iff.rfl
theorem place_iff {i : Int} : placeB l w b i = true ↔ toldB l w b = true ∧ 0 ≤ i ∧ i < l.length := by
  unfold placeB
  rw [Bool.and_eq_true, Bool.and_eq_true, decide_eq_true_iff, decide_eq_true_iff]
theorem place_nat (h : toldB l w b = true) {i : Nat} (hi : i < l.length) : placeB l w b (i : Int) = true := place_iff.2 ⟨h, by omega, by omega⟩
theorem kidZ_nat (h : toldB l w b = true) {i : Nat} (hi : i < l.length) : kidZ l w b (i : Int) = optZ (bestN l w b i) := by
  unfold kidZ
  rw [if_pos (place_nat h hi), Int.toNat_natCast]
theorem wayZ_nat (h : toldB l w b = true) {i : Nat} (hi : i < l.length) : wayZ l w b (i : Int) = (wayN l w b i).map (fun k : Nat => (k : Int)) := by
  unfold wayZ
  rw [if_pos (place_nat h hi), Int.toNat_natCast]
theorem headZ_nat (h : toldB l w b = true) {i : Nat} (hi : i < l.length) : headZ l w b (i : Int) = headN l w b i := by
  unfold headZ
  rw [if_pos (place_nat h hi), Int.toNat_natCast]
theorem kidZ_not {i : Int} (h : placeB l w b i = false) : kidZ l w b i = -1 := by unfold kidZ; rw [if_neg (by rw [h]; exact Bool.false_ne_true)]
theorem wayZ_not {i : Int} (h : placeB l w b i = false) : wayZ l w b i = [] := by unfold wayZ; rw [if_neg (by rw [h]; exact Bool.false_ne_true)]
theorem headZ_not {i : Int} (h : placeB l w b i = false) : headZ l w b i = -1 := by unfold headZ; rw [if_neg (by rw [h]; exact Bool.false_ne_true)]
/-- Behind the last node there is no child. -/
theorem best_past (h : toldB l w b = true) {i : Nat} (hi : l.length ≤ i) : bestN l w b i = none := by
  refine best_off ltS fun k hk hp => ?_
  have hm := (told_iff.1 h).1
  by_cases h0 : k = 0
  · subst h0; rw [hm.first] at hp; omega
  · obtain ⟨e, hu, _⟩ := hm.par (Nat.pos_of_ne_zero h0) hk
    rw [e] at hp
    omega
theorem kid_any (h : toldB l w b = true) (i : Nat) : kidZ l w b (i : Int) = optZ (bestN l w b i) := by
  by_cases hi : i < l.length
  · exact kidZ_nat h hi
  · rw [best_past h (by omega), optZ_none]
    refine kidZ_not ?_
    rw [← Bool.not_eq_true, place_iff]
    rintro ⟨_, _, h2⟩
    omega
/-! ### one node more -/
def bestUp (l : List Nd) (w : List UInt64) (b : List Bool) (i n : Nat) : Option Nat := bestF l lessR (fn w) (bn b) i n
theorem bestUp_zero (i : Nat) : bestUp l w b i 0 = none := rfl
theorem bestUp_all (i : Nat) : bestUp l w b i l.length = bestN l w b i := rfl
theorem bestUp_not {i n : Nat} (h : candB l (bn b) i n = false) : bestUp l w b i (n + 1) = bestUp l w b i n := by
  show (match bestUp l w b i n with | none => if candB l (bn b) i n = true then some n else none | some m => if (candB l (bn b) i n && betterB l lessR (fn w) n m) = true then some n else some m) = _
  rw [h]
  cases bestUp l w b i n <;> rfl
theorem bestUp_first {i n : Nat} (h : candB l (bn b) i n = true) (e : bestUp l w b i n = none) : bestUp l w b i (n + 1) = some n := by
  show (match bestUp l w b i n with | none => if candB l (bn b) i n = true then some n else none | some m => if (candB l (bn b) i n && betterB l lessR (fn w) n m) = true then some n else some m) = _
  rw [h, e]
  rfl
theorem bestUp_next {i n m : Nat} (h : candB l (bn b) i n = true) (e : bestUp l w b i n = some m) : bestUp l w b i (n + 1) = if betterB l lessR (fn w) n m = true then some n else some m := by
  show (match bestUp l w b i n with | none => if candB l (bn b) i n = true then some n else none | some m => if (candB l (bn b) i n && betterB l lessR (fn w) n m) = true then some n else some m) = _
  rw [h, e]
  show (if (true && betterB l lessR (fn w) n m) = true then some n else some m) = _
  rw [Bool.true_and]
theorem bestUp_lt {i n m : Nat} (e : bestUp l w b i n = some m) : m < n := by
  rcases best_spec (l := l) (lt := lessR) (w := fn w) (leads := bn b) ltS i n with ⟨e1, _⟩ | ⟨c, e1, hc, _⟩
  · have e2 : bestUp l w b i n = none := e1
    rw [e2] at e; cases e
  · have e2 : bestUp l w b i n = some c := e1
    rw [e2] at e
    obtain rfl := Option.some.inj e
    exact hc
theorem best_bd {i k : Nat} (e : bestN l w b i = some k) : k < l.length := (best_some ltS e).1
/-! ### BestKid -/
theorem law_kid {i : Nat} : (bestN l w b i = none ∧ ∀ c, c ∈ kidsT l i → bn b c = false) ∨ ∃ k, bestN l w b i = some k ∧ k < l.length ∧ (nd l k).parent = (i : Int) ∧ bn b k = true ∧ k ∈ kidsT l i ∧ ∀ c, c ∈ kidsT l i → bn b c = true → fn w c ≤ fn w k ∧ (fn w c = fn w k → lessR (nd l k).root (nd l c).root = false) := by
  cases e : bestN l w b i with
  | none => exact .inl ⟨rfl, fun c hc => best_none ltS e c (mem_kids.1 hc).1 (mem_kids.1 hc).2⟩
  | some k =>
    obtain ⟨h1, h2, h3, h4⟩ := best_some ltS e
    refine .inr ⟨k, rfl, h1, h2, h3, mem_kids.2 ⟨h1, h2⟩, fun c hc hb => ?_⟩
    have := h4 c (mem_kids.1 hc).1 (mem_kids.1 hc).2 hb
    rw [← Bool.not_eq_true, better_iff] at this
    refine ⟨Classical.byContradiction fun hn => this (.inl (by omega)), fun he => ?_⟩
    rw [← Bool.not_eq_true]
    exact fun hl => this (.inr ⟨he, hl⟩)
/-! ### BestHead -/
theorem law_way (h : MayT l) {i : Nat} (hi : i < l.length) : headN l w b i < l.length ∧ aboveT l i (headN l w b i) = true ∧ bestN l w b (headN l w b i) = none ∧ 0 < (wayN l w b i).length ∧ (wayN l w b i).length ≤ l.length ∧ (wayN l w b i).getD 0 0 = i ∧ (wayN l w b i).getD ((wayN l w b i).length - 1) 0 = headN l w b i ∧
    (∀ j, j < (wayN l w b i).length → (wayN l w b i).getD j 0 < l.length ∧ headN l w b ((wayN l w b i).getD j 0) = headN l w b i) ∧ ∀ j, j + 1 < (wayN l w b i).length → bestN l w b ((wayN l w b i).getD j 0) = some ((wayN l w b i).getD (j + 1) 0) := by
  obtain ⟨a1, a2, a3, _⟩ := law_head (w := fn w) (leads := bn b) ltS h _ i rfl hi
  obtain ⟨b1, b2, b3⟩ := way_steps (w := fn w) (leads := bn b) ltS h _ i rfl hi
  obtain ⟨r, hr⟩ := way_head (l := l) (lt := lessR) (w := fn w) (leads := bn b) i
  have hr' : wayN l w b i = i :: r := hr
  have hb3 : (wayN l w b i).length + i ≤ l.length ∨ (wayN l w b i).length ≤ l.length := by
    first | exact .inr (by have := b3; unfold wayN; omega)
  refine ⟨a1, a2, a3, by rw [hr']; simp, by omega, by rw [hr']; rfl, ?_, fun j hj => ⟨(b1 j hj).1, (b1 j hj).2.1⟩, b2⟩
  show _ = (wayN l w b i).getLastD i
  rw [hr']
  cases r with
  | nil => rfl
  | cons x r => simp [List.getLastD, List.getLast_eq_getElem, List.getD_eq_getElem?_getD]
/-! ### BestPairs -/
theorem law_pairs (h : MayT l) {i : Nat} : (bestN l w b i = none ∧ headN l w b i = i) ∨ ∃ k, bestN l w b i = some k ∧ k < l.length ∧ headN l w b i = headN l w b k := by
  cases e : bestN l w b i with
  | none => exact .inl ⟨rfl, head_none e⟩
  | some k => exact .inr ⟨k, rfl, best_bd e, head_some ltS h e⟩
end
end Go.Proofs.Ytjmpgphoiehdmaa
