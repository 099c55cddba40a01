/-
  Rings, plainly: what may be, what is put, what is taken, what is told of numbers gone through; no word of the program.
-/
import Derived.Test.YtmcnpefnebehfaaInts
namespace Go.Proofs.Ytmcnpefnebehfaa

/-- May such a ring be? -/
def mayB (c : Int) (l : List Int) : Bool := decide (0 ≤ c ∧ c ≤ 8 ∧ (l.length : Int) ≤ c)
def pushB (c : Int) (l : List Int) : Bool := mayB c l && decide ((l.length : Int) < c)
def pushL (c : Int) (l : List Int) (x : Int) : List Int := if pushB c l = true then l ++ [x] else l
def popB (c : Int) (l : List Int) : Bool := mayB c l && decide (0 < l.length)
def popL (c : Int) (l : List Int) : List Int := if popB c l = true then l.drop 1 else l
def popX (c : Int) (l : List Int) : Int := if popB c l = true then it l 0 else 0
/-- One number gone through. -/
def stepL (c : Int) (l : List Int) (n : Int) : List Int := if n < 0 then l.drop 1 else if (l.length : Int) < c then l ++ [n] else l
def toldX (c : Int) (l : List Int) (n : Int) : Int := if n < 0 then (if l.length = 0 then -1 else it l 0) else if (l.length : Int) < c then 1 else 0
/-- Numbers gone through. -/
def runL (c : Int) (l ns : List Int) : List Int := ns.foldl (stepL c) l
def toldL (c : Int) : List Int → List Int → List Int
  | _, [] => []
  | l, n :: ns => toldX c l n :: toldL c (stepL c l n) ns
def goL (c : Int) (l ns : List Int) : List Int := if mayB c l = true then runL c l ns else l
def goT (c : Int) (l ns : List Int) : List Int := if mayB c l = true then toldL c l ns else []

theorem mayB_iff {c : Int} {l : List Int} : mayB c l = true ↔ 0 ≤ c ∧ c ≤ 8 ∧ (l.length : Int) ≤ c := by simp [mayB]
theorem runL_append (c : Int) (l a b : List Int) : runL c l (a ++ b) = runL c (runL c l a) b := by simp [runL]
theorem runL_snoc (c : Int) (l a : List Int) (n : Int) : runL c l (a ++ [n]) = stepL c (runL c l a) n := by simp [runL]
theorem toldL_append (c : Int) : ∀ (l a b : List Int), toldL c l (a ++ b) = toldL c l a ++ toldL c (runL c l a) b
  | l, [], b => rfl
  | l, n :: a, b => by
    rw [List.cons_append, toldL, toldL, toldL_append c (stepL c l n) a b]; rfl
theorem toldL_snoc (c : Int) (l a : List Int) (n : Int) : toldL c l (a ++ [n]) = toldL c l a ++ [toldX c (runL c l a) n] := by rw [toldL_append]; rfl
theorem toldL_length (c : Int) : ∀ (l ns : List Int), (toldL c l ns).length = ns.length
  | _, [] => rfl
  | l, n :: ns => by simp [toldL, toldL_length c]
theorem step_may {c : Int} {l : List Int} (h : mayB c l = true) (n : Int) : mayB c (stepL c l n) = true := by
  rw [mayB_iff] at *
  unfold stepL
  split
  · simp; omega
  · split
    · simp; omega
    · exact h
theorem run_may {c : Int} : ∀ {l : List Int} (ns : List Int), mayB c l = true → mayB c (runL c l ns) = true
  | _, [], h => h
  | l, n :: ns, h => run_may (l := stepL c l n) ns (step_may h n)
theorem toldL_get (c : Int) : ∀ (l ns : List Int) (i : Nat), i < ns.length → it (toldL c l ns) i = toldX c (runL c l (ns.take i)) (it ns i)
  | _, [], i, h => by simp at h
  | l, n :: ns, 0, _ => rfl
  | l, n :: ns, i + 1, h => by
    have := toldL_get c (stepL c l n) ns i (by simpa using h)
    exact this
/-- What a push comes to. -/
theorem step_push {c : Int} {l : List Int} (h : mayB c l = true) {n : Int} (hn : 0 ≤ n) : stepL c l n = pushL c l n ∧ toldX c l n = if pushB c l = true then 1 else 0 := by
  have hn' : ¬ n < 0 := by omega
  unfold stepL toldX pushL pushB
  by_cases e : (l.length : Int) < c <;> simp [e, h, hn']
theorem step_pop {c : Int} {l : List Int} (h : mayB c l = true) {n : Int} (hn : n < 0) : stepL c l n = popL c l ∧ toldX c l n = if popB c l = true then popX c l else -1 := by
  unfold stepL toldX popL popX popB
  rw [if_pos hn, if_pos hn, h]
  by_cases e : l.length = 0
  · have : l = [] := List.length_eq_zero_iff.1 e
    subst this; simp
  · have : 0 < l.length := by omega
    simp [this, e]
theorem push_may {c : Int} {l : List Int} (h : mayB c l = true) (x : Int) : mayB c (pushL c l x) = true := by
  unfold pushL
  split
  · rename_i hp
    unfold pushB at hp
    rw [Bool.and_eq_true, decide_eq_true_eq] at hp
    rw [mayB_iff] at *
    simp; omega
  · exact h
theorem pop_may {c : Int} {l : List Int} (h : mayB c l = true) : mayB c (popL c l) = true := by
  unfold popL
  split
  · rw [mayB_iff] at *
    simp; omega
  · exact h
theorem push_len (c : Int) (l : List Int) (x : Int) : (pushL c l x).length ≤ l.length + 1 := by unfold pushL; split <;> simp
theorem pop_len (c : Int) (l : List Int) : (popL c l).length ≤ l.length := by unfold popL; split <;> simp
theorem may_len {c : Int} {l : List Int} (h : mayB c l = true) : l.length ≤ 8 := by rw [mayB_iff] at h; omega
theorem pushB_not {c : Int} {l : List Int} (h : mayB c l = false) : pushB c l = false := by simp [pushB, h]
theorem popB_not {c : Int} {l : List Int} (h : mayB c l = false) : popB c l = false := by simp [popB, h]
end Go.Proofs.Ytmcnpefnebehfaa
