/-
  Package root: each root once (once), walked.
-/
import Derived.Test.YtecppjbbodpcnaaRootB
namespace Go.Proofs.Ytecppjbbodpcnaa
open Go.RowKit Go.Maps

/-- A slice that reads as a list of roots. -/
def SlR (w : World) (v : Value) (l : List Rt) : Prop :=
  ∃ p cap, v = .slice p l.length cap ∧ (l = [] ∨ ∃ b off, p = some ⟨b, off, none⟩ ∧ b < w.heap.size ∧ ∀ i (h : i < l.length), ldA w (.pointer (some ⟨b, off + i * 32, none⟩)) 32 = some (rc l[i]))

theorem zeroUnit (w : World) : (zeroValue 45).run Try.prog w = .ok (.agg #[]) w := by kernel_rfl
theorem Try.infoRoot : (Try.prog.info? 23).map (fun i => (i.zero, i.size, i.bytes)) = some (some (.agg (rc zr)), 32, 32) := by rw [rc_zr]; kernel_rfl
/-- A row of the call's own, from 'base' on, is no block below 'base' (the map's, say). -/
theorem row_ne {w : World} {base : Nat} {e : TypeId} {size : Nat} {v : Value} {n : Nat} {xs : List Value} (h : w.ownsRow base e size v n xs) {b : Nat} (hb : b < base) : some b ≠ v.ownBlock := fun e1 => by
  have := (h.lt b e1.symm).1
  omega

theorem ldA_grown {W w1 : World} {row : Option Nat} (h : W.grownBy w1 row) (b o n : Nat) (hb : b < W.heap.size) (hne : some b ≠ row) : ldA w1 (.pointer (some ⟨b, o, none⟩)) n = ldA W (.pointer (some ⟨b, o, none⟩)) n :=
  ldA_congr fun _ _ => World.cell?_of_block (h.block b hb hne)
theorem once_load {wr w1 : World} {m : Nat} {r : Rt} (h : ((wr.alloc (.cells (rc r) 23)).alloc (.cells #[] 45)).grownBy w1 (some m)) (hm : m < wr.heap.size) : ldA w1 (.pointer (some ⟨wr.heap.size, 0, none⟩)) 32 = some (rc r) := by
  rw [ldA_grown h _ _ _ (by simp; omega) (by intro e; injection e; omega), ldA_alloc _ _ _ _ _ (by simp), ldA_alloc_new _ _ _ _ _ rfl (rc_size r)]
theorem cell_row_new (w : World) (c : Array Value) (t : TypeId) : ∀ (j : Nat) (u : Value), c.toList[j]? = some u → (w.alloc (.cells c t)).cell? ((⟨w.heap.size, 0, none⟩ : Addr).add j) = some u := fun j u h => by
  rw [Addr.add_mid, Nat.zero_add, cell_of_row _ _ j c t _ (heap_alloc_last w _)]
  simpa using h
theorem rc_ones (r : Rt) : ∀ u ∈ (rc r).toList, u.oneCell' = true := fun u h => (Array.all_eq_true_iff_forall_mem.1 (rc_one r)) u (by simpa using h)

set_option maxRecDepth 100000 in
set_option maxHeartbeats 400000 in
theorem once_none (a : Option Addr) (cap : Nat) (w : World) : Calls Try.prog 21 #[.slice a 0 cap] w fun e w' => e = .returned (.slice none 0 0) ∧ Below w.heap.size w w' := by
  have hmm := @run_makeMap Try.prog
  go_enter Try.func21, Try.ntmps21
  go_wp2
  refine wp_loop_rounds 1 ?_
  rw [rounds_succ]
  go_wp2
  go_ret
  exact ⟨rfl, (Below.refl _ _).alloc (Nat.le_refl _) _⟩

set_option maxRecDepth 100000 in
set_option maxHeartbeats 1000000 in
theorem once_any (b off cap : Nat) (l : List Rt) (w : World) (hreach : l.length * 32 ≤ 140737488351232) (hb : b < w.heap.size)
    (hc : ∀ i (h : i < l.length), ldA w (.pointer (some ⟨b, off + i * 32, none⟩)) 32 = some (rc l[i])) :
    Calls Try.prog 21 #[.slice (some ⟨b, off, none⟩) l.length cap] w fun e w' => ∃ v, e = .returned v ∧ w'.ownsRow (w.heap.size + 1) 23 32 v (onceR l l.length).length (cellsL (onceR l l.length)) ∧ Below w.heap.size w w' := by
  have hmm := @run_makeMap Try.prog
  obtain ⟨i0, hi, hz0, hz1, hz2⟩ := info_parts Try.infoRoot
  go_enter Try.func21, Try.ntmps21
  go_wp2
  go_loopw [3, 12] (fun v i wr => ∃ k : Nat, k ≤ l.length ∧ i = .int .i64 k ∧ wr.ownsMap Try.prog 23 unitElem w.heap.size k (setR l k) ∧ wr.ownsRow (w.heap.size + 1) 23 32 v (onceR l k).length (cellsL (onceR l k)) ∧
      Below w.heap.size w wr ∧ w.heap.size + 1 ≤ wr.heap.size)
    (fun _ i _ => l.length - (intOf i).toNat)
  case atStart => exact ⟨0, Nat.zero_le _, rfl, by rw [setR_zero]; exact World.ownsMap_made _ _ _ _, by rw [onceR_zero]; exact World.ownsRow_nil _ _ _ _, (Below.refl _ _).alloc (Nat.le_refl _) _, by simp⟩
  case round =>
    obtain ⟨k, hk, rfl, hown, hrow, hnx, hws⟩ := hrel
    by_cases hlt : k < l.length
    · have hal := onceR_le l k
      have hcx : ldA wr (.pointer (some ⟨b, off + k * 32, none⟩)) 32 = some (rc l[k]) := (ldA_below hnx b _ 32 hb).trans (hc k hlt)
      clear hc
      go_wp2_with (first
        | (at_lookup; refine wpList_lookup_own_unit _ rfl _ _ 44 rfl 23 45 keyed_root Try.underlying44 (zeroUnit _) w.heap.size k _ rfl (hown.alloc _) _ _ rfl (key_root l[k]) ?_)
        | (at_mapUpdate; refine wpList_mapUpdate_own _ rfl _ _ _ 44 rfl 23 45 keyed_root Try.underlying44 (unitElem (H := Unit)) w.heap.size k _ rfl ((hown.alloc _).alloc _) (by unfold maxLen; omega) _ _ _ rfl rfl (key_root l[k]) _ [] unitElem_mk ?_; intro w1 hown1 hgrow1; have hl1 := once_load hgrow1 (by omega))
        | (at_builtin; refine wpList_append_own _ rfl _ _ 24 rfl (w.heap.size + 1) 23 i0 (.agg (rc zr)) 32 32 Try.underlying24 hi hz0 hz1 hz2 (rc_size zr) (by decide) _ _ _ rfl ((((hrow.alloc _).alloc _).kept hgrow1 (Or.inr (row_ne hrow (Nat.lt_succ_self _)).symm)).alloc _) ⟨w1.heap.size, 0, none⟩ 1 1 (rc l[k]).toList rfl (by simp [rc_size]) (cell_row_new _ _ _) (rc_ones _) (by unfold maxLen; omega) (by omega) (by have := hgrow1.size; simp at this ⊢; omega) ?_; intro v' w2 hown' hgrow2 hnil2)
        | go_in)
      · have ht : (!Maps.has (setR l k) (rk l[k])) = true := by assumption
        have hc0 : (onceR l k).contains l[k] = false := by rw [← has_setR]; simpa using ht
        have hr1 := ((hrow.alloc (.cells (rc l[k]) 23)).alloc (.cells #[] 45)).kept hgrow1 (Or.inr (row_ne hrow (Nat.lt_succ_self _)).symm)
        have s1 := hgrow1.size
        have s2 := hgrow2.size
        simp at s1 s2
        go_roundw
        case rel =>
          refine ⟨k + 1, by omega, by go_num, ?_, ?_, ?_, by omega⟩
          · rw [setR_new l k hlt hc0]
            exact (hown1.alloc _).kept hgrow2 (row_ne hr1 (Nat.lt_succ_self _))
          · rw [onceR_new l k hlt hc0, cellsL_snoc]
            simpa using hown'
          · exact (((((hnx.alloc hnx.size _).alloc (by simp; omega) _).grown hgrow1 (by simp; omega) (fun j hj => by cases hj; exact Nat.le_refl _)).alloc (by omega) _).grown hgrow2 (by simp; omega) (fun j hj => Nat.le_trans (Nat.le_succ _) (hr1.lt j hj).1))
        case measure => simp [intOf]; omega
      · have ht : (!Maps.has (setR l k) (rk l[k])) = false := by assumption
        have hc1 : (onceR l k).contains l[k] = true := by rw [← has_setR]; simpa using ht
        go_roundw
        case rel =>
          refine ⟨k + 1, by omega, by go_num, ?_, ?_, (hnx.alloc hnx.size _).alloc (by simp; omega) _, by simp; omega⟩
          · unfold setR
            rw [onceR_old l k hlt hc1]
            exact ((hown.alloc _).alloc _).mono (Nat.le_succ _)
          · rw [onceR_old l k hlt hc1]
            exact (hrow.alloc _).alloc _
        case measure => simp [intOf]; omega
    · obtain rfl : k = l.length := by omega
      go_wp2
      go_ret
      exact ⟨_, rfl, hrow, hnx⟩
end Go.Proofs.Ytecppjbbodpcnaa
