/-
  Roots in order, each once: the plain facts.
-/
import Derived.Test.YtecppjbbodpcnaaRootC
namespace Go.Proofs.Ytecppjbbodpcnaa
open Go.RowKit

def Rising (l : List Rt) : Prop := l.Pairwise fun a b => lessR a b = true
/-- Roots in order, each once. -/
def srt (l : List Rt) : List Rt := (onceR l l.length).mergeSort fun x y => !lessR y x

theorem rising_ext : ∀ a b : List Rt, Rising a → Rising b → (∀ x, x ∈ a ↔ x ∈ b) → a = b
  | [], [], _, _, _ => rfl
  | [], y :: b, _, _, h => absurd ((h y).2 (by simp)) (by simp)
  | x :: a, [], _, _, h => absurd ((h x).1 (by simp)) (by simp)
  | x :: a, y :: b, ha, hb, h => by
    obtain ⟨ha1, ha2⟩ := List.pairwise_cons.1 ha
    obtain ⟨hb1, hb2⟩ := List.pairwise_cons.1 hb
    have e : x = y := by
      rcases List.mem_cons.1 ((h x).1 (by simp)) with e | hx
      · exact e
      · rcases List.mem_cons.1 ((h y).2 (by simp)) with e | hy
        · exact e.symm
        · have h1 := lessR_asymm (hb1 x hx)
          rw [ha1 y hy] at h1
          cases h1
    subst e
    rw [rising_ext a b ha2 hb2 (fun z => ?_)]
    constructor
    · intro hz
      rcases List.mem_cons.1 ((h z).1 (by simp [hz])) with rfl | hz'
      · have := ha1 z hz; rw [lessR_irrefl] at this; cases this
      · exact hz'
    · intro hz
      rcases List.mem_cons.1 ((h z).2 (by simp [hz])) with rfl | hz'
      · have := hb1 z hz; rw [lessR_irrefl] at this; cases this
      · exact hz'
theorem le_total (a b : Rt) : (!lessR b a || !lessR a b) = true := by
  cases h : lessR b a
  · rfl
  · rw [lessR_asymm h]; rfl
theorem le_trans (a b c : Rt) (h : (!lessR b a) = true) (k : (!lessR c b) = true) : (!lessR c a) = true := by
  cases e : lessR c a
  · rfl
  · by_cases e2 : lessR a b = true
    · rw [lessR_trans e e2] at k; cases k
    · have e3 : lessR a b = false := by simpa using e2
      have : a = b := lessR_tri e3 (by simpa using h)
      subst this
      rw [e] at k; cases k
theorem srt_rising (l : List Rt) : Rising (srt l) := by
  have h1 := List.pairwise_mergeSort (le := fun x y => !lessR y x) le_trans le_total (onceR l l.length)
  have h2 : (srt l).Nodup := (List.mergeSort_perm _ _).nodup_iff.2 (onceR_nodup l _)
  exact (h1.and h2).imp fun {a b} ⟨h, k⟩ => by
    cases e : lessR a b
    · exact absurd (lessR_tri e (by simpa using h)) k
    · rfl
theorem srt_mem (l : List Rt) (x : Rt) : x ∈ srt l ↔ x ∈ l := by
  unfold srt
  rw [List.mem_mergeSort, onceR_mem, List.take_length]
theorem srt_eq {l a : List Rt} (h : Rising a) (hm : ∀ x, x ∈ a ↔ x ∈ l) : a = srt l :=
  rising_ext _ _ h (srt_rising l) fun x => (hm x).trans (srt_mem l x).symm
theorem srt_le (l : List Rt) : (srt l).length ≤ l.length := by
  unfold srt
  rw [List.length_mergeSort]
  exact onceR_le l _
theorem srt_nil : srt [] = [] := by
  have := srt_le []
  exact List.length_eq_zero_iff.1 (by simpa using this)
end Go.Proofs.Ytecppjbbodpcnaa
