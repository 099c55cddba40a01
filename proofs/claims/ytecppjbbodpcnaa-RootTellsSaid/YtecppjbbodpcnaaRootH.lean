/-
  The chapter's example (awake), walked; texts and their roots.
-/
import Derived.Test.YtecppjbbodpcnaaRootE
import Derived.Test.YtecppjbbodpcnaaRootG
namespace Go.Proofs.Ytecppjbbodpcnaa
open Go.RowKit

theorem belowA {a w : World} (h : Below a.heap.size a w) (o : Obj) : Below a.heap.size a (w.alloc o) := h.alloc h.size _
theorem belowT {a b c : World} (h : Below a.heap.size a b) (k : Below b.heap.size b c) : Below a.heap.size a c := h.trans (k.mono h.size)
theorem textL_length (l : List UInt8) : (textL l).length = 2 * l.length := by
  induction l with
  | nil => rfl
  | cons a l ih => rw [textL, List.flatMap_cons, List.length_append, ← textL, ih]; simp [dig2]; omega
theorem textR_length (r : Rt) : (textL r.toList).length = 64 := by rw [textL_length]; simp
theorem textL_get : ∀ (l : List UInt8) (i : Nat) (h : i < l.length), (textL l)[2 * i]? = some (dg (l[i].toNat / 16)) ∧ (textL l)[2 * i + 1]? = some (dg (l[i].toNat % 16))
  | [], _, h => by simp at h
  | a :: l, 0, _ => by simp [textL, dig2]
  | a :: l, i + 1, h => by
    have ih := textL_get l i (by simpa using h)
    rw [textL, List.flatMap_cons, ← textL]
    rw [List.getElem?_append_right (by simp [dig2]; omega), List.getElem?_append_right (by simp [dig2]; omega)]
    have e1 : 2 * (i + 1) - (dig2 a).length = 2 * i := by simp [dig2]; omega
    have e2 : 2 * (i + 1) + 1 - (dig2 a).length = 2 * i + 1 := by simp [dig2]; omega
    rw [e1, e2]
    exact ih
theorem textL_hex (l : List UInt8) : ∀ c ∈ textL l, (vOf c).isSome = true := by
  intro c hc
  obtain ⟨b, _, hb⟩ := List.mem_flatMap.1 hc
  have hlt := b.toNat_lt
  simp only [dig2, List.mem_cons, List.not_mem_nil, or_false] at hb
  rcases hb with rfl | rfl
  · rw [vOf_dg _ (by omega)]; rfl
  · rw [vOf_dg _ (by omega)]; rfl
/-- A root's text is its own. -/
theorem ofL_text (r : Rt) : ofL (textL r.toList) = some r := by
  unfold ofL
  rw [if_pos ⟨textR_length r, List.all_eq_true.2 (textL_hex _)⟩]
  refine congrArg some ?_
  apply at8_ext
  intro i hi
  rw [packR_at _ _ _ hi, at8_get r i hi]
  have hl : i < r.toList.length := by simp; exact hi
  obtain ⟨h1, h2⟩ := textL_get r.toList i hl
  have hb := (r.toList[i]).toNat_lt
  unfold pByte valD
  rw [if_pos (by omega), List.getD_eq_getElem?_getD, List.getD_eq_getElem?_getD, h1, h2]
  simp only [Option.getD_some]
  rw [vOf_dg _ (by omega), vOf_dg _ (by omega)]
  simp only [Option.getD_some]
  omega

def r171 : Rt := zr.set 0 171
theorem rc_171 : (#[.int .u8 171, .int .u8 0, .int .u8 0, .int .u8 0, .int .u8 0, .int .u8 0, .int .u8 0, .int .u8 0, .int .u8 0, .int .u8 0, .int .u8 0, .int .u8 0, .int .u8 0, .int .u8 0, .int .u8 0, .int .u8 0, .int .u8 0, .int .u8 0, .int .u8 0, .int .u8 0, .int .u8 0, .int .u8 0, .int .u8 0, .int .u8 0, .int .u8 0, .int .u8 0, .int .u8 0, .int .u8 0, .int .u8 0, .int .u8 0, .int .u8 0, .int .u8 0] : Array Value) = rc r171 := by kernel_rfl
theorem foldl_zip_at (z c : Array Value) (o : Nat) (h : o + c.size ≤ z.size) (j : Nat) : (c.zipIdx.foldl (fun cs (p : Value × Nat) => cs.setIfInBounds (o + p.2) p.1) z)[j]? = if o ≤ j ∧ j < o + c.size then c[j - o]? else z[j]? := by
  have e : c.zipIdx.foldl (fun cs (p : Value × Nat) => cs.setIfInBounds (o + p.2) p.1) z = ((c.toList.zipIdx o).foldl (fun c p => c.setIfInBounds p.2 p.1) z) := by
    rw [← Array.foldl_toList, Array.toList_zipIdx, List.zipIdx_eq_map_add (l := c.toList) (i := o), List.foldl_map]
  rw [e, foldl_set]
  by_cases hj : o ≤ j ∧ j < o + c.size
  · rw [if_pos (by simp; omega), if_pos hj]; simp
  · rw [if_neg (by simp; omega), if_neg hj]
theorem foldl_size (c : Array Value) (o : Nat) (z : Array Value) : (c.zipIdx.foldl (fun cs (p : Value × Nat) => cs.setIfInBounds (o + p.2) p.1) z).size = z.size := by
  rw [← Array.foldl_toList]
  generalize c.zipIdx.toList = l
  induction l generalizing z with
  | nil => rfl
  | cons a l ih => rw [List.foldl_cons, ih]; simp
theorem fold2 (z c d : Array Value) (hz : z.size = 64) (hc : c.size = 32) (hd : d.size = 32) :
    d.zipIdx.foldl (fun cs (p : Value × Nat) => cs.setIfInBounds (32 + p.2) p.1) (c.zipIdx.foldl (fun cs (p : Value × Nat) => cs.setIfInBounds (0 + p.2) p.1) z) = c ++ d := by
  apply Array.ext_getElem?
  intro j
  rw [foldl_zip_at _ d 32 (by rw [foldl_size]; omega), foldl_zip_at _ c 0 (by omega), Array.getElem?_append]
  by_cases h1 : 32 ≤ j ∧ j < 32 + d.size
  · rw [if_pos h1, if_neg (by omega), hc]
  · rw [if_neg h1]
    by_cases h2 : j < c.size
    · rw [if_pos (by omega), if_pos h2, Nat.sub_zero]
    · rw [if_neg (by omega), if_neg h2, Array.getElem?_eq_none (by omega), Array.getElem?_eq_none (by omega)]
theorem okA_agg {x : Value} {n : Nat} (hx : okA n x = true) : ∃ c, x = .agg c ∧ c.size = n := by
  unfold okA at hx
  split at hx
  · rename_i c
    rw [Bool.and_eq_true, beq_iff_eq] at hx
    exact ⟨c, rfl, hx.1⟩
  · cases hx
@[go_sem ↓] theorem buildSlice_root2 (ρ : Operand → Value) (dst : Option Tmp) (x y : Operand) (ty : TypeId) (pos : String) (after : Array Edge) (guard : Option (Nat × Bool)) (w : World) (hx : okA 32 (ρ x) = true) (hy : okA 32 (ρ y) = true) :
    (execOp ρ { dst, op := .buildSlice 24 2 #[(0, x), (1, y)], type := ty, pos, after, guard }).run Try.prog w = .ok (.value (.slice (some ⟨w.heap.size, 0, none⟩) 2 2)) (w.alloc (.cells (cellsA (ρ x) ++ cellsA (ρ y)) 23)) := by
  obtain ⟨c, hc, hn⟩ := okA_agg hx
  obtain ⟨d, hd, hm⟩ := okA_agg hy
  have hp : (2 * 32 > 2 ^ 24) = False := by simp
  have h0 : (2 * 32 = 0) = False := by simp
  unfold execOp
  simp only [Instr.buildSlice, Sem.run_bind, run_underlying Try.underlying24, Result.andThen_ok, Try.sizeOf23, hp, h0, if_false, zero_root, Value.cells]
  simp only [List.map_toArray, List.map_cons, List.map_nil, hc, hd, Instr.fill, Value.cells, hn, hm]
  simp only [Sem.run_pure, Result.andThen_ok]
  generalize hz : (Array.range (2 * 32)).map (fun x => (rc zr)[x % (rc zr).size]!) = z
  have hzs : z.size = 64 := by rw [← hz]; simp
  have h1 := foldl_size c 0 z
  have h2 := fold2 z c d hzs hn hm
  simp only [Nat.zero_mul, Nat.one_mul, h1, h2, hzs]
  simp [cellsA]
  rfl

theorem slR_two {w : World} {t : TypeId} (a b : Rt) : SlR (w.alloc (.cells (rc a ++ rc b) t)) (.slice (some ⟨w.heap.size, 0, none⟩) 2 2) [a, b] := by
  refine ⟨_, _, rfl, .inr ⟨_, _, rfl, by simp, fun i hi => ?_⟩⟩
  refine ldA_mk (rc_size _) fun j v hv => ?_
  have hj : j < 32 := by have := (List.getElem?_eq_some_iff.1 hv).1; simpa [rc_size] using this
  rw [cell_of_row _ _ _ _ t _ (heap_alloc_last w _), Array.getElem?_append, rc_size]
  rw [Array.getElem?_toList] at hv
  have hi2 : i < 2 := by simpa using hi
  have : i = 0 ∨ i = 1 := by omega
  rcases this with rfl | rfl
  · rw [if_pos (by omega), show 0 + 0 * 32 + j = j by omega]; exact hv
  · rw [if_neg (by omega), show 0 + 1 * 32 + j - 32 = j by omega]; exact hv
theorem less_171 : lessR zr r171 = true := by decide +kernel
theorem srt_171 : (srt [r171, r171]).length = 1 := by decide +kernel
def t171 : ByteArray := ⟨(textL r171.toList).toArray⟩

theorem ofL_t171 : ofL t171.data.toList = some r171 := ofL_text r171
theorem aw1 (W : World) : Calls Try.prog 17 #[.agg (rc r171)] W fun e w' => e = .returned (.string t171) ∧ Below W.heap.size W w' := text_any r171 W
theorem aw2 (W : World) : Calls Try.prog 10 #[.string t171] W fun e w' => e = .returned (.tuple #[.agg (rc r171), .bool true]) ∧ Below W.heap.size W w' := by
  have h := of_any t171 W
  unfold OfIs ofR ofB at h
  rw [ofL_t171] at h
  simp only [Option.getD_some, Option.isSome_some] at h
  exact h
theorem aw3 (W : World) : Calls Try.prog 16 #[.agg (rc zr), .agg (rc r171)] W fun e w' => e = .returned (.bool true) ∧ Below W.heap.size W w' := by
  refine (less_any zr r171 W).mono ?_
  rintro e w' ⟨rfl, n, os, rfl⟩
  exact ⟨by rw [less_171], below_grow _ _ _⟩
theorem aw4 (W : World) (v : Value) (hv : SlR W v [r171, r171]) : Calls Try.prog 14 #[v] W fun e w' => ∃ p cap, e = .returned (.slice p 1 cap) ∧ Below W.heap.size W w' := by
  refine (sort_any v [r171, r171] W hv (by simp)).mono ?_
  rintro e w' ⟨v', rfl, ⟨p, cap, rfl, _⟩, hb⟩
  exact ⟨p, cap, by rw [srt_171], hb⟩
theorem t171_size : (t171.size : Int) = 64 := by decide +kernel
theorem t171_0 (W : World) : (Instr.index 9 (.string t171) (.int .i64 0)).run Try.prog W = .ok (.int .u8 97) W := by kernel_rfl
theorem t171_1 (W : World) : (Instr.index 9 (.string t171) (.int .i64 1)).run Try.prog W = .ok (.int .u8 98) W := by kernel_rfl
theorem t171_2 (W : World) : (Instr.index 9 (.string t171) (.int .i64 2)).run Try.prog W = .ok (.int .u8 48) W := by kernel_rfl
theorem eqB_self (a : Rt) : eqB a a = true := by simp [eqB]
set_option maxRecDepth 100000 in
set_option maxHeartbeats 1000000 in
theorem awake_any (w : World) :
    Calls Try.prog 9 #[] w fun e w' => e = .returned (.bool true) ∧ Below w.heap.size w w' := by
  have c1 := aw1
  have c2 := aw2
  have c3 := aw3
  have c4 := aw4
  have hz := t171_size
  have i0 := t171_0
  have i1 := t171_1
  have i2 := t171_2
  have he := eqB_self r171
  have hok := okA_rc r171
  have b171 := rc_171
  generalize t171 = T at *
  go_enter Try.func9, Try.ntmps9
  go_wp2_with fail
  refine (c1 _).mono ?_
  rintro e w1 ⟨rfl, h1⟩
  go_wp2_with fail
  refine (c2 _).mono ?_
  rintro e w2 ⟨rfl, h2⟩
  go_wp2_with fail
  refine (c3 _).mono ?_
  rintro e w3 ⟨rfl, h3⟩
  have hl3 : ldA w3 (.pointer (some ⟨w2.heap.size, 0, none⟩)) 32 = some (rc r171) := (ldA_below h3 _ _ _ (by simp)).trans (ldA_alloc_new _ _ _ _ _ rfl (rc_size _))
  go_wp2_with fail
  refine (c4 _ _ (slR_two _ _)).mono ?_
  rintro e w4 ⟨p, cap, rfl, h4⟩
  go_wp2_with fail
  go_ret
  have s3 := h3.size
  simp at s3
  exact ⟨rfl, belowT (belowA (belowT (belowA (belowT h1 h2) _) h3) _) h4⟩
end Go.Proofs.Ytecppjbbodpcnaa
