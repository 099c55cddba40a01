/-
  How long a tree can be that comes in: the form's own reach.
-/
import Derived.Test.YtonfmddjlhgglaaTr
import Derived.SizedLaws
namespace Go.Proofs.Ytonfmddjlhgglaa
open Go.RowKit
open Go.WideShapes Go.ChangeShapes
variable {H : Type} {enc : TypeId × Value → H} {w : World} {base : Nat} {sp : Nat → Bool} {held : Bool}

theorem bytes_ne : Try.prog.bytesOf 53 = 56 := by kernel_rfl
theorem tree_room {a : Tr} {d : DataW H} {ps : List MemPlace} (hd : DataW.Trod enc Try.prog w base sp held 24 (.agg (tr a)) d ps) (hw : ∀ n ∈ d.weights Try.prog 24, n ≤ reachBytes) : a.n.len * 56 ≤ 140737488355328 := by
  obtain ⟨fuel, hf⟩ := hd
  have hf' : DataW.trod enc Try.prog w base sp held fuel 24 [sv a.n] = some (d, ps) := by
    have e : (Value.agg (tr a)).cells.toList = [sv a.n] := tr_list a
    rw [← e]
    exact hf
  obtain ⟨xs, m, _, e1, _, hlen, hx⟩ := DataW.trod_struct under_tr hf'
  have hfl := flds_tr
  obtain ⟨f, hf0⟩ : ∃ f, (Try.prog.fieldsOf 24).toList = [f] := List.length_eq_one_iff.1 (by have := congrArg List.length hfl; simpa using this)
  rw [hf0] at hfl
  have hft : f.type = 22 ∧ f.offset = 0 := by
    simp only [List.map_cons, List.map_nil, List.cons.injEq, Prod.mk.injEq, and_true] at hfl
    exact ⟨hfl.2.1, hfl.2.2⟩
  have hfa : (Try.prog.fieldsOf 24)[0]? = some f := by rw [← Array.getElem?_toList, hf0]; rfl
  have h0 := hx 0 f hfa
  obtain ⟨y, rfl⟩ : ∃ y, xs = [y] := List.length_eq_one_iff.1 (by rw [hlen, ← Array.length_toList, hf0]; rfl)
  rw [hft.1, hft.2, show Try.prog.cellsOf 22 = 1 from by kernel_rfl] at h0
  have h0' : DataW.trod enc Try.prog w base sp held m 22 [sv a.n] = some y := h0
  have ed : d = .agg [y.1] := congrArg Prod.fst e1
  rcases Deep.open_slice Try.underlying22 h0' with ⟨h1, _⟩ | ⟨a', len', cap', mm, nn, D, Pl, h1, _, hl, hm, hmm, hy, _⟩
  · have e : sv a.n = .slice none 0 0 := (List.cons.inj h1).1
    unfold sv at e
    injection e with _ e2 _
    omega
  · have e : sv a.n = .slice (some a') len' cap' := (List.cons.inj h1).1
    unfold sv at e
    injection e with _ e2 _
    have hy1 : y.1 = .slice ((List.range len').map D) ((List.range (mm - len')).map fun j => D (len' + j)) := by rw [hy]
    have hmem := hw ((((List.range len').map D).length + ((List.range (mm - len')).map fun j => D (len' + j)).length) * Try.prog.bytesOf 53) (by
      rw [ed, hy1]
      unfold DataW.weights
      rw [under_tr]
      simp only [hf0, List.map_cons, List.map_nil, hft.1]
      unfold DataW.weightsEach
      unfold DataW.weights
      rw [Try.underlying22]
      simp)
    rw [bytes_ne] at hmem
    simp only [List.length_map, List.length_range, reachBytes] at hmem
    rw [e2]
    have : len' * 56 ≤ (len' + (mm - len')) * 56 := Nat.mul_le_mul_right _ (by omega)
    omega
end Go.Proofs.Ytonfmddjlhgglaa
