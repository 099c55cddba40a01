/-
  Roots as keys of a map; in any translation that has api.Root.
-/
import Derived.Test.YtfmbgpjpkahmnaaRt
import Derived.Maps.OwnSet
import Derived.Maps.AppendAt
import Derived.WideKeyArr2
namespace Go.Proofs.Ytfmbgpjpkahmnaa
open Go.RowKit Go.Maps

def lits8 (r : Rt) : List Lit := (List.range 32).map fun i => Lit.int .u8 (at8 r i)
def rk (r : Rt) : Lit := .string (keyBytes (lits8 r))
theorem keyed_root : Keyed Try.prog 27 := Keyed.of_law arr_root.law
theorem wf8 (r : Rt) (i : Nat) : (Lit.int .u8 (at8 r i)).wf = true := by
  have := at8_bd r i
  show (decide (IntKind.u8.min ≤ at8 r i) && decide (at8 r i ≤ IntKind.u8.max)) = true
  rw [Bool.and_eq_true, decide_eq_true_eq, decide_eq_true_eq, show IntKind.u8.min = 0 from rfl, show IntKind.u8.max = 255 from rfl]
  omega
theorem key_root (r : Rt) : keyOf Try.prog 27 (.agg (rc r)) = some (rk r) := by
  have hkt : Try.prog.keyType 27 = true := by kernel_rfl
  have hf : (Value.agg (rc r)).formed Try.prog 27 = true := by simp [Value.formed, Try.underlying27, arr_root.size, rc_size]
  obtain ⟨D, hD⟩ : ∃ D, Try.prog.types.size = D + 1 := ⟨Try.prog.types.size - 1, by have : 1 ≤ Try.prog.types.size := of_decide_eq_true (by kernel_rfl); omega⟩
  unfold keyOf
  simp only [Try.underlying27]
  rw [if_pos (by rw [hkt, hf]; rfl), hD]
  unfold Program.keyLits
  simp only [Try.underlying27, Value.cells]
  rw [if_pos (by rw [arr_root.size]; simp [rc_size]), arr_root.one]
  rw [mapM_mk _ (List.range 32) ((List.range 32).map fun i => [Lit.int .u8 (at8 r i)]) (by simp) (fun j x y hx hy => ?_)]
  · have hfl : ∀ l : List Nat, (l.map fun i => [Lit.int .u8 (at8 r i)]).flatten = l.map fun i => Lit.int .u8 (at8 r i) := fun l => by induction l with | nil => rfl | cons a t ih => simp [ih]
    simp [hfl, rk, lits8]
  · have hj : j < 32 := by simpa using (List.getElem?_eq_some_iff.1 hx).1
    have ex : x = j := by
      obtain ⟨_, e⟩ := List.getElem?_eq_some_iff.1 hx
      simpa using e.symm
    subst ex
    have ey : y = [Lit.int .u8 (at8 r x)] := by
      rw [List.getElem?_map, hx] at hy
      simpa using hy.symm
    subst ey
    have hg : ((rc r).toList.drop (x * 1)).take 1 = [.int .u8 (at8 r x)] := by
      have hl : x < (rc r).toList.length := by simp [rc_size]; exact hj
      rw [Nat.mul_one, List.drop_eq_getElem_cons hl]
      simp [rc_getElem]
    rw [hg]
    unfold Program.keyLits
    simp only [Try.underlying5]
    rw [if_pos ⟨trivial, wf8 r x⟩]
theorem rk_inj {a b : Rt} (h : rk a = rk b) : a = b := by
  have := keyed_root.inj (key_root a) (by rw [h]; exact key_root b)
  injection this with e
  exact rc_inj e
theorem rk_same (a b : Rt) : (rk a).sameKey (rk b) = decide (a = b) := by
  by_cases e : a = b
  · subst e
    rw [WideAt.sameKey_self (keyed_root.key (key_root a))]; simp
  · rw [sameKey_ne (fun h => e (rk_inj h))]; simp [e]
theorem isKey_rk (r : Rt) : WideAt.IsKeyLit (rk r) := keyed_root.key (key_root r)
/-- A map that was there lies as it lay. -/
theorem ownsMap_keep {H : Type} {P : Program} {k : TypeId} {R : Value → Option (DataW H × List MemPlace)} {b n : Nat} {D : DataW H} {W w1 : World} (g : Below W.heap.size W w1) (h : W.ownsMap P k R b n D) : w1.ownsMap P k R b n D := by
  obtain ⟨es, clock, hb, F, hn, hD⟩ := h
  exact ⟨es, clock, (g.block _ (Array.getElem?_eq_some_iff.1 hb).1).trans hb, F, hn, hD⟩
end Go.Proofs.Ytfmbgpjpkahmnaa
