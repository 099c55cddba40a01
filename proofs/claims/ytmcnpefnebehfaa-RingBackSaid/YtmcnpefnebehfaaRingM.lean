/-
  Package ring: the queue's cells; place, push, pop, step, walked.
-/
import Derived.Test.YtmcnpefnebehfaaRingP
namespace Go.Proofs.Ytmcnpefnebehfaa
open Go.RowKit

/-- The cells of a queue. -/
def qc (pl : List Int) (f n c : Nat) : Array Value := (iv pl ++ ([.int .i64 (f : Int), .int .i64 (n : Int), .int .i64 (c : Int)] : List Value)).toArray
theorem qc_size {pl : List Int} (h : pl.length = 8) (f n c : Nat) : (qc pl f n c).size = 11 := by simp [qc, iv_length, h]
theorem qc_pl {pl : List Int} (f n c i : Nat) (hi : i < pl.length) : (qc pl f n c)[i]? = some (.int .i64 (it pl i)) := by
  simp only [qc, List.getElem?_toArray]
  rw [List.getElem?_append_left (by rw [iv_length]; exact hi), iv_get pl i hi]
theorem qc_f {pl : List Int} (h : pl.length = 8) (f n c : Nat) : (qc pl f n c)[8]? = some (.int .i64 (f : Int)) := by
  simp only [qc, List.getElem?_toArray]
  rw [List.getElem?_append_right (by rw [iv_length]; omega), iv_length, h]; rfl
theorem qc_n {pl : List Int} (h : pl.length = 8) (f n c : Nat) : (qc pl f n c)[9]? = some (.int .i64 (n : Int)) := by
  simp only [qc, List.getElem?_toArray]
  rw [List.getElem?_append_right (by rw [iv_length]; omega), iv_length, h]; rfl
theorem qc_c {pl : List Int} (h : pl.length = 8) (f n c : Nat) : (qc pl f n c)[10]? = some (.int .i64 (c : Int)) := by
  simp only [qc, List.getElem?_toArray]
  rw [List.getElem?_append_right (by rw [iv_length]; omega), iv_length, h]; rfl
theorem qc_set_pl {pl : List Int} (f n c i : Nat) (hi : i < pl.length) (x : Int) : (qc pl f n c).setIfInBounds i (.int .i64 x) = qc (pl.set i x) f n c := by
  simp only [qc, List.setIfInBounds_toArray]
  rw [List.set_append_left _ _ (by rw [iv_length]; exact hi)]
  simp [iv, List.map_set]
theorem qc_set_f {pl : List Int} (h : pl.length = 8) (f n c g : Nat) : (qc pl f n c).setIfInBounds 8 (.int .i64 (g : Int)) = qc pl g n c := by
  simp only [qc, List.setIfInBounds_toArray]
  rw [List.set_append_right _ _ (by rw [iv_length]; omega), iv_length, h]; rfl
theorem qc_set_n {pl : List Int} (h : pl.length = 8) (f n c g : Nat) : (qc pl f n c).setIfInBounds 9 (.int .i64 (g : Int)) = qc pl f g c := by
  simp only [qc, List.setIfInBounds_toArray]
  rw [List.set_append_right _ _ (by rw [iv_length]; omega), iv_length, h]; rfl
attribute [irreducible] qc

/-- Block b is a queue that holds these numbers, with room for c. -/
def Que (w : World) (b : Nat) (l : List Int) (c : Nat) : Prop :=
  ∃ (pl : List Int) (f : Nat), pl.length = 8 ∧ f < 8 ∧ l.length ≤ c ∧ c ≤ 8 ∧ w.heap[b]? = some (.cells (qc pl f l.length c) 44 (0, 0)) ∧ ∀ i, i < l.length → it pl ((f + i) % 8) = it l i
theorem Que.block {w w' : World} {b : Nat} {l : List Int} {c : Nat} (h : Que w b l c) (hb : w'.heap[b]? = w.heap[b]?) : Que w' b l c := by
  obtain ⟨pl, f, h1, h2, h3, h4, h5, h6⟩ := h
  exact ⟨pl, f, h1, h2, h3, h4, by rw [hb]; exact h5, h6⟩
theorem Que.lt {w : World} {b : Nat} {l : List Int} {c : Nat} (h : Que w b l c) : b < w.heap.size := by
  obtain ⟨pl, f, h1, h2, h3, h4, h5, h6⟩ := h
  exact (Array.getElem?_eq_some_iff.1 h5).1
theorem Que.keep {w w' : World} {b : Nat} {l : List Int} {c : Nat} (h : Que w b l c) (g : Below w.heap.size w w') : Que w' b l c := h.block (g.block b h.lt)
theorem Que.le {w : World} {b : Nat} {l : List Int} {c : Nat} (h : Que w b l c) : l.length ≤ c ∧ c ≤ 8 := by
  obtain ⟨pl, f, h1, h2, h3, h4, h5, h6⟩ := h
  exact ⟨h3, h4⟩
theorem grown_setCell {w w0 : World} {b : Nat} (h : w0.grownBy w (some b)) (o : Nat) (v : Value) : w0.grownBy (w.setCell ⟨b, o, none⟩ v) (some b) :=
  ⟨h.os, h.tape, h.output, by simpa [World.setCell] using h.size, fun k hk hne => by
    rw [Below.heap_setCell _ _ _ _ (fun e => hne (by rw [e]))]; exact h.block k hk hne⟩
theorem grown_refl (w : World) (r : Option Nat) : w.grownBy w r := ⟨rfl, rfl, rfl, Nat.le_refl _, fun _ _ _ => rfl⟩
theorem grown_drew {w0 w : World} {r : Option Nat} (h : w0.grownBy w r) : w0.grownBy w.drew r := ⟨h.os, h.tape, h.output, h.size, h.block⟩
theorem heap_setI {w : World} {g : Nat} {c : Array Value} {t : TypeId} (hg : w.heap[g]? = some (.cells c t (0, 0))) (o : Nat) (v : Value) : (w.setCell ⟨g, o, none⟩ v).heap[g]? = some (.cells (c.setIfInBounds o v) t (0, 0)) := by
  simp [World.setCell, hg, Array.getElem?_modify]

theorem it_set {pl : List Int} {i j : Nat} (hi : i < pl.length) (x : Int) : it (pl.set i x) j = if i = j then x else it pl j := by
  simp only [it, List.getD_eq_getElem?_getD, List.getElem?_set]
  split
  · rename_i h; subst h; simp
  · rfl
theorem que_push {pl : List Int} {f : Nat} {l : List Int} (h1 : pl.length = 8) (hl : l.length < 8) (h : ∀ i, i < l.length → it pl ((f + i) % 8) = it l i) (x : Int) : ∀ i, i < (l ++ [x]).length → it (pl.set ((f + l.length) % 8) x) ((f + i) % 8) = it (l ++ [x]) i := by
  intro i hi
  rw [it_set (by omega)]
  simp at hi
  by_cases e : i = l.length
  · subst e; rw [if_pos rfl]; simp [it]
  · rw [if_neg (by omega), h i (by omega)]
    simp [it, List.getElem?_append_left (show i < l.length by omega)]
theorem que_pop {pl : List Int} {f : Nat} {l : List Int} (h : ∀ i, i < l.length → it pl ((f + i) % 8) = it l i) : ∀ i, i < (l.drop 1).length → it pl (((f + 1) % 8 + i) % 8) = it (l.drop 1) i := by
  intro i hi
  simp at hi
  rw [it_drop, ← h (1 + i) (by omega)]
  congr 1; omega

theorem wrapI (x : Int) (h0 : 0 ≤ x) (h1 : x < 100) : IntKind.i64.wrap x = x := IntWalk.i64_in _ (by omega)

set_option maxRecDepth 100000 in
set_option maxHeartbeats 1000000 in
theorem place_any (b f k : Nat) (w : World) (hf : f < 8) (hk : k ≤ 8) (hc : w.cell? ⟨b, 8, none⟩ = some (.int .i64 (f : Int))) :
    Calls Try.prog 29 #[.pointer (some ⟨b, 0, none⟩), .int .i64 (k : Int)] w fun e w' => e = .returned (.int .i64 (((f + k) % 8 : Nat) : Int)) ∧ w = w' := by
  have u1 : (0 : Int) ≤ (f : Int) + (k : Int) := by omega
  have u2 : (f : Int) + (k : Int) < 100 := by omega
  go_enter Try.func29, Try.ntmps29
  go_wp2_with fail
  go_ret
  exact ⟨by simp, rfl⟩
theorem enters_place : ∀ args w, (callFunc 29 args).run Try.prog w = .ok (.enter 29 args) w := entersI Try.func29 (by kernel_rfl) (by kernel_rfl)
end Go.Proofs.Ytmcnpefnebehfaa
