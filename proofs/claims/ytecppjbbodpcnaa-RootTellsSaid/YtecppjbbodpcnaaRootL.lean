/-
  Lists of roots: are two the same (the document's own Same), one list behind another one.
-/
import Derived.Test.YtecppjbbodpcnaaRootK
import Derived.Laws.AppendOwnNone
namespace Go.Proofs.Ytecppjbbodpcnaa
open Go.RowKit

set_option maxRecDepth 100000 in
set_option maxHeartbeats 4000000 in
theorem same_ne (b1 o1 c1 b2 o2 c2 : Nat) (l : List Rt) (w : World) (hlen : l.length ≤ 1000) (h1 : ∀ i (h : i < l.length), ldA w (.pointer (some ⟨b1, o1 + i * 32, none⟩)) 32 = some (rc l[i])) (h2 : ∀ i (h : i < l.length), ldA w (.pointer (some ⟨b2, o2 + i * 32, none⟩)) 32 = some (rc l[i])) :
    Calls Try.prog 13 #[.slice (some ⟨b1, o1, none⟩) l.length c1, .slice (some ⟨b2, o2, none⟩) l.length c2] w fun e w' => e = .returned (.bool true) ∧ Below w.heap.size w w' := by
  have H1 := Lib.hid h1
  have H2 := Lib.hid h2
  clear h1 h2
  go_enter Try.func13, Try.ntmps13
  go_wp2_with fail
  go_loopw [5] (fun i wr => ∃ k : Nat, k ≤ l.length ∧ i = .int .i64 k ∧ Below w.heap.size w wr) (fun i _ => l.length - (intOf i).toNat)
  case atStart => exact ⟨0, Nat.zero_le _, rfl, Below.refl _ _⟩
  case round =>
    obtain ⟨k, hk, rfl, hb⟩ := hrel
    by_cases hlt : k < l.length
    · have i0 : (0 : Int) ≤ (k : Int) := by omega
      have i1 : (k : Int) < (l.length : Int) := by omega
      have l1 := fun p : Wd wr => ldA_wd (keep hb (H1.out k hlt)) (by decide) p
      have l2 := fun p : Wd wr => ldA_wd (keep hb (H2.out k hlt)) (by decide) p
      have he := eqB_self l[k]
      go_wp2_with fail
      refine wp_region_grown (by kernel_rfl) (by kernel_rfl) ?_
      repeat (first | go_big_quiet_step (fail) | quiet_step (fail))
      refine wpQuiet_nil ?_
      rintro w5 ⟨⟨_, g5⟩, rfl⟩
      go_wp2_with fail
      go_roundw
      case rel => exact ⟨k + 1, by omega, by go_num, hb.trans (g5.mono hb.size)⟩
      case measure => simp [intOf]; omega
    · obtain rfl : k = l.length := by omega
      go_wp2_with fail
      go_ret
      exact ⟨rfl, hb⟩
set_option maxRecDepth 100000 in
set_option maxHeartbeats 4000000 in
theorem same_nil (p1 p2 : Option Addr) (c1 c2 : Nat) (w : World) :
    Calls Try.prog 13 #[.slice p1 0 c1, .slice p2 0 c2] w fun e w' => e = .returned (.bool true) ∧ Below w.heap.size w w' := by
  go_enter Try.func13, Try.ntmps13
  go_wp2_with fail
  refine wp_loop_rounds 1 ?_
  rw [rounds_succ]
  go_wp2_with fail
  go_ret
  exact ⟨rfl, Below.refl _ _⟩
theorem same_any (v1 v2 : Value) (l : List Rt) (w : World) (hlen : l.length ≤ 1000) (h1 : SlR w v1 l) (h2 : SlR w v2 l) :
    Calls Try.prog 13 #[v1, v2] w fun e w' => e = .returned (.bool true) ∧ Below w.heap.size w w' := by
  by_cases hn : l = []
  · subst hn
    obtain ⟨p1, c1, rfl, _⟩ := h1
    obtain ⟨p2, c2, rfl, _⟩ := h2
    exact same_nil p1 p2 c1 c2 w
  · obtain ⟨b1, o1, c1, rfl, g1⟩ := slR_ne h1 hn
    obtain ⟨b2, o2, c2, rfl, g2⟩ := slR_ne h2 hn
    exact same_ne b1 o1 c1 b2 o2 c2 l w hlen g1 g2

theorem cellsL_append (k l : List Rt) : cellsL (k ++ l) = cellsL k ++ cellsL l := by simp [cellsL]
theorem cellsL_ones (l : List Rt) : ∀ u ∈ cellsL l, u.oneCell' = true := fun u h => by
  obtain ⟨r, _, hr⟩ := List.mem_flatMap.1 h
  exact rc_ones r u hr
theorem cells_of_roots {w : World} {b off : Nat} {l : List Rt} (h : ∀ i (h : i < l.length), ldA w (.pointer (some ⟨b, off + i * 32, none⟩)) 32 = some (rc l[i])) :
    ∀ (j : Nat) (u : Value), (cellsL l)[j]? = some u → w.cell? ((⟨b, off, none⟩ : Addr).add j) = some u := fun j u hu => by
  have hj : j < l.length * 32 := by
    have := (List.getElem?_eq_some_iff.1 hu).1
    rwa [cellsL_length] at this
  have h1 := cellsL_get l (j / 32) (j % 32) (by omega) (by omega)
  rw [show j / 32 * 32 + j % 32 = j by omega, hu] at h1
  have h2 := (ldA_range (h (j / 32) (by omega))).2 (j % 32) _ (by rw [Array.getElem?_toList]; exact rc_get _ (j % 32) (by omega))
  rw [Addr.add_mid, show off + j = off + j / 32 * 32 + j % 32 by omega, h2, ← h1]
theorem slR_of_owns {w : World} {base : Nat} {v : Value} {l : List Rt} (h : w.ownsRow base 23 32 v l.length (cellsL l)) : SlR w v l := by
  rcases h with ⟨_, ⟨rfl, h0⟩ | ⟨g, cap, cur, rfl, hg1, hg2, hn1, hn2, hn3, hn4⟩⟩
  · have : l = [] := List.length_eq_zero_iff.1 h0
    subst this
    exact slR_nil _ _ _
  · refine ⟨_, _, rfl, .inr ⟨g, 0, rfl, (Array.getElem?_eq_some_iff.1 hg2).1, fun i hi => ?_⟩⟩
    have := ldA_of_holds (holds_of_row hg2 hn4) i (by simpa using hi)
    simpa using this
theorem run_append_empty {P : Program} {w : World} (base : Nat) (t ty e : TypeId) (i : TypeInfo) (size : Nat) (ht : P.underlying t = some (.slice e)) (hi : P.info? e = some i)
    (v : Value) (n : Nat) (xs : List Value) (hown : w.ownsRow base e size v n xs) (p : Option Addr) (c : Nat) :
    (Builtin.append_ #[t, t] ty #[v, .slice p 0 c]).run P w = .ok v w := by
  rcases hown.2 with ⟨rfl, rfl⟩ | ⟨g, cap, cur, rfl, _, _, hnc, _⟩
  · cases p <;> simp [Builtin.append_, run_underlying ht, sizeOf, typeInfo, hi, Builtin.lenOf, Builtin.firstCells, loadCells, loadCellsFrom]
  · cases p <;> simp [Builtin.append_, run_underlying ht, sizeOf, typeInfo, hi, Builtin.lenOf, Builtin.firstCells, loadCells, loadCellsFrom, hnc, storeCells]
/-- append(s, l...), s the call's own, l a list of roots wherever it lies. -/
theorem wpList_append_roots (w : World) {ops : Array Oper} {rest : List Oper} {o : Oper} {a : Act} {Q : Exit → Act → World → Prop} (hgd : o.guard = none) (s x : Operand)
    (ho : o.op = .call { callee := .builtin .append, args := #[s, x], argTypes := #[24, 24] })
    (base : Nat) (v : Value) (k : List Rt) (hs : a.eval s = v) (hown : w.ownsRow base 23 32 v k.length (cellsL k)) (vx : Value) (l : List Rt) (hx : a.eval x = vx) (hsl : SlR w vx l)
    (hlen : (k.length + l.length) * 32 ≤ 140737488355328) (hbase : base ≤ w.heap.size)
    (h : ∀ v' w', w'.ownsRow base 23 32 v' (k ++ l).length (cellsL (k ++ l)) → w.grownBy w' v.ownBlock → wpList Try.prog ops Q rest (a.put o.dst v') w') : wpList Try.prog ops Q (o :: rest) a w := by
  obtain ⟨i, hi, hz0, hz1, hz2⟩ := info_parts Try.infoRoot
  obtain ⟨p, cap, rfl, hsl⟩ := hsl
  by_cases hn : l = []
  · subst hn
    refine wpList_plain hgd fun K hK => ?_
    have hrun := run_append_empty (P := Try.prog) (w := w) base 24 o.type 23 i 32 Try.underlying24 hi v k.length _ hown p cap
    have hx' : a.eval x = .slice p 0 cap := hx
    unfold Oper.wp
    simp [execOp, ho, resolve, invoke, builtin, hs, hx', hrun, Result.andThen]
    have hg := h v w (by simpa using hown) ⟨rfl, rfl, rfl, Nat.le_refl _, fun _ _ _ => rfl⟩
    exact hK _ _ hg
  · obtain ⟨b, off, rfl, hb, hc⟩ := hsl.resolve_left hn
    refine wpList_append_own w hgd s x 24 ho base 23 i (.agg (rc zr)) 32 32 Try.underlying24 hi hz0 hz1 hz2 (rc_size zr) (by decide) v k.length (cellsL k) hs hown ⟨b, off, none⟩ l.length cap (cellsL l) hx (cellsL_length l) (cells_of_roots hc) (cellsL_ones l) (by unfold maxLen; omega) hlen hbase ?_
    intro v' w' h1 h2 _
    exact h v' w' (by rw [List.length_append, cellsL_append]; exact h1) h2
end Go.Proofs.Ytecppjbbodpcnaa
