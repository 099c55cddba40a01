/-
  A list of latest votes: slices.Clone, walked.
  What does not lie in a box of votes.
  Package vote: copied, walked.
  An element stored whole into a row of the call's own; for every program.
  What Put answers, and where it lies.
  Votes, a root, and an empty result in variables.
-/
import Derived.Test.YtccihllcohnnnaaQ16
import Derived.Test.YtccihllcohnnnaaQ15
import Derived.Laws.Cover3
import Derived.Deep.Cut
import Derived.Test.YtccihllcohnnnaaQ09
import Derived.Test.YtccihllcohnnnaaQ19
namespace Go.Proofs.Ytccihllcohnnnaa
open Go.RowKit
set_option maxRecDepth 100000

theorem eq_nilLt (p : Option Addr) (n cap : Nat) (w : World) : (binOp .eql 25 (.slice p n cap) (.slice none 0 0)).run Try.prog w = .ok (.bool p.isNone) w := by
  have h := run_equalIn_slice_nil (P := Try.prog) w 9999 25 41 p n cap Try.underlying25
  simp [binOp, Op.equal, Op.maxDepth, h]
theorem KltB : KnownB Try.prog Elt 25 48 := ⟨Try.underlying25, .agg (lt zlt), info_lt, by show ((lt zlt)).size = _; exact lt_size _⟩
def SlIsT (l : List Lt) (w : World) (e : Ending) (w' : World) : Prop := ∃ v, e = .returned v ∧ OwnE Elt w' w.heap.size v l ∧ Below w.heap.size w w'

set_option maxRecDepth 100000 in
set_option maxHeartbeats 1000000 in
theorem cloneLt_n (p : Option Addr) (n cap : Nat) (l : List Lt) (w : World) (h : SlE Elt w (.slice p n cap) l) (hl : l.length = n) (hn : n * 48 ≤ 140737488355328) :
    Calls Try.prog 57 #[.slice p n cap] w (SlIsT l w) := by
  have HS := Lib.hid h
  have HL := Lib.hid hl
  have HN := Lib.hid hn
  cases p with
  | none =>
    have hn0 : l = [] := by
      obtain ⟨p, cap', e, _, h⟩ := h
      injection e with e
      subst e
      exact h.resolve_right (fun ⟨_, _, e, _⟩ => by cases e)
    have e : n = 0 := by rw [← hl, hn0]; rfl
    subst hn0 e
    clear HS h hl hn
    have he : ∀ w, (binOp .eql 25 (.slice none 0 cap) (.slice none 0 0)).run Try.prog w = .ok (.bool true) w := fun w => eq_nilLt none 0 cap w
    go_enter Try.func57, Try.ntmps57
    go_wp2_with fail
    go_ret
    exact ⟨_, rfl, ownE_nil _ _ _, Below.refl _ _⟩
  | some a =>
    have HO : Hid (OwnE Elt (w.alloc (.cells #[] 41)) w.heap.size (.slice (some ⟨w.heap.size, 0, none⟩) 0 0) []) := ownE_lit (E := Elt) w [] 0 rfl (by simp [maxLen]) #[] rfl _ rfl
    have HB : Hid (Below w.heap.size w (w.alloc (.cells #[] 41))) := below1
    clear h hl hn
    have he : ∀ w, (binOp .eql 25 (.slice (some a) n cap) (.slice none 0 0)).run Try.prog w = .ok (.bool false) w := fun w => eq_nilLt (some a) n cap w
    go_enter Try.func57, Try.ntmps57
    go_wp2_with (at_builtin; refine wpList_append_B KltB _ rfl (.tmp 5) (.tmp 6) rfl w.heap.size _ [] rfl HO.out _ l rfl (slE_keep HB.out HS.out) (by have := HL.out; have := HN.out; simp [maxLen]; omega) (by have := HL.out; have := HN.out; simp; omega) (by simp) ?_; intro v2 w2 ho2 hg2)
    go_ret
    exact ⟨_, rfl, by simpa using ho2, HB.out.trans (hg2.own HO.out (by simp))⟩
theorem cloneLt (v : Value) (l : List Lt) (w : World) (h : SlE Elt w v l) (hn : l.length * 48 ≤ 140737488355328) :
    Calls Try.prog 57 #[v] w (SlIsT l w) := by
  have k := h
  obtain ⟨p, cl, rfl, _⟩ := slE_shape h
  exact cloneLt_n p _ cl l w k rfl hn
theorem enters_cloneLt : ∀ args w, (callFunc 57 args).run Try.prog w = .ok (.enter 57 args) w := entersE Try.func57 (by kernel_rfl) (by kernel_rfl)
end Go.Proofs.Ytccihllcohnnnaa
namespace Go.Proofs.Ytccihllcohnnnaa
open Go.RowKit
set_option maxRecDepth 100000

/-- What is longer than a box of votes does not lie in it. -/
theorem slE_not_vo {α : Type} {E : Lie α} (hE : 2 < E.n) {w : World} {v : Value} {l : List α} {g : Nat} {x : Vo} {t : TypeId} {fr : Nat × Nat} (h : SlE E w v l) (hg : w.heap[g]? = some (.cells (vo x) t fr)) : l = [] ∨ v.ownBlock ≠ some g := by
  by_cases hl : l = []
  · exact .inl hl
  · refine .inr fun e => ?_
    obtain ⟨b, off, cap, rfl, _, _, hr⟩ := slE_ne h (List.length_pos_iff.2 hl)
    have hb : b = g := by simpa [Value.ownBlock] using e
    subst hb
    have hlen : 3 ≤ (cellsE E l).length := by
      rw [cellsE_length]
      have : 0 < l.length := List.length_pos_iff.2 hl
      have := Nat.mul_le_mul (show 1 ≤ l.length from this) (show 3 ≤ E.n from hE)
      omega
    have hv : (cellsE E l)[2]? = some ((cellsE E l)[2]'(by omega)) := List.getElem?_eq_getElem _
    have := hr 2 _ hv
    rw [cell_of_row _ _ _ _ _ _ hg, Array.getElem?_eq_none (by rw [vo_size]; omega)] at this
    cases this
theorem slE_put_vo {α : Type} {E : Lie α} (hE : 2 < E.n) {w : World} {v y : Value} {l : List α} {g : Nat} {x : Vo} {t : TypeId} {fr : Nat × Nat} (h : SlE E w v l) (hg : w.heap[g]? = some (.cells (vo x) t fr)) : SlE E (stA w (.pointer (some ⟨g, 0, none⟩)) y) v l := by
  rcases slE_not_vo hE h hg with e | e
  · subst e
    obtain ⟨p, cap, rfl, _⟩ := h
    exact slE_nil _ _ _ _
  · exact slE_block h (by rw [size_stA]; exact Nat.le_refl _) (fun k _ hk => heap_stA (fun e2 => e (by rw [hk, e2])))
end Go.Proofs.Ytccihllcohnnnaa
namespace Go.Proofs.Ytccihllcohnnnaa
open Go.RowKit
set_option maxRecDepth 100000

/-- Votes in a row of the call's own. -/
def VoOwn (v : Vt) (w : World) (e : Ending) (w' : World) : Prop := ∃ s : SlV, e = .returned (.agg (vo ⟨s, v.out⟩)) ∧ OwnE Elt w' w.heap.size (sv s) v.l ∧ Below w.heap.size w w'
theorem ownE_sv {α : Type} {E : Lie α} {w : World} {base : Nat} {v : Value} {l : List α} (h : OwnE E w base v l) : ∃ s : SlV, v = sv s := by
  obtain ⟨p, c, rfl, _⟩ := slE_shape (ownE_slE h)
  exact ⟨⟨p, _, c⟩, rfl⟩

set_option maxRecDepth 100000 in
set_option maxHeartbeats 4000000 in
theorem voteCopied (s : SlV) (v : Vt) (w : World) (h : SlE Elt w (sv s) v.l) (hn : v.l.length ≤ 1000) :
    Calls Try.prog 39 #[.agg (vo ⟨s, v.out⟩)] w (VoOwn v w) := by
  obtain ⟨W0, hW0⟩ : ∃ W0, W0 = (w.alloc (.cells (vo ⟨s, v.out⟩) 28)).alloc (.cells (vo zvo) 28) := ⟨_, rfl⟩
  obtain ⟨hB, hM, hR, hZ⟩ := heap2 w _ _ _ _ W0 hW0
  have HC := Lib.hid (cloneLt (sv s) v.l W0 (slE_keep hB h) (by omega))
  have B0 := Lib.hid hB
  have M0 : Hid (W0.heap[w.heap.size]? = some (.cells (vo ⟨s, v.out⟩) 28 (0, 0))) := hM
  have R0 : Hid (W0.heap[w.heap.size + 1]? = some (.cells (vo zvo) 28 (0, 0))) := hR
  have HW := Lib.hid hW0
  have Z0 : Hid (W0.heap.size = w.heap.size + 2) := hZ
  obtain ⟨z0, z1, z2, zl⟩ := vo_cells hM
  dsimp only at z0
  clear hB hM hR hW0 h hn hZ
  go_enter Try.func39, Try.ntmps39
  go_upto_region 1 with fail
  rw [← HW.out]
  go_wp2_with fail
  refine HC.out.mono ?_
  rintro e w1 ⟨y, rfl, ho, g⟩
  obtain ⟨⟨p2, n2, c2⟩, rfl⟩ := ownE_sv ho
  rw [sv_mk] at ho ⊢
  have O1 := Lib.hid ho
  have B1 := Lib.hid (belowT B0.out g)
  have hM1 := blk_keep g M0.out
  have hR1 := blk_keep g R0.out
  have f0 := frozen_of_row w1 w.heap.size 0 _ _ hM1
  have hM2 : (w1.setCell ⟨w.heap.size, 0, none⟩ (.slice p2 n2 c2)).heap[w.heap.size]? = some (.cells (vo ⟨⟨p2, n2, c2⟩, v.out⟩) 28 (0, 0)) := by
    have := heap_setCell_same hM1 0 (.slice p2 n2 c2)
    rwa [vo_sets_l] at this
  have hR2 : (w1.setCell ⟨w.heap.size, 0, none⟩ (.slice p2 n2 c2)).heap[w.heap.size + 1]? = some (.cells (vo zvo) 28 (0, 0)) := by
    rw [Below.heap_setCell _ _ _ _ (show w.heap.size + 1 ≠ w.heap.size by omega)]; exact hR1
  have hO2 : OwnE Elt (w1.setCell ⟨w.heap.size, 0, none⟩ (.slice p2 n2 c2)) W0.heap.size (.slice p2 n2 c2) v.l := ownE_set ho (by rw [Z0.out]; omega) _
  have hB2 : Below w.heap.size w (w1.setCell ⟨w.heap.size, 0, none⟩ (.slice p2 n2 c2)) := B1.out.setCell (p := ⟨w.heap.size, 0, none⟩) (Nat.le_refl _) _
  have M2 := Lib.hid hM2
  have R2 := Lib.hid hR2
  have O2 := Lib.hid hO2
  have B2 := Lib.hid hB2
  obtain ⟨y0, y1, y2, yl⟩ := vo_cells hM1
  dsimp only at y0
  clear z0 z1 z2 zl ho g hM1 hR1 hM2 hR2 hO2 hB2
  go_upto_region 2 with fail
  obtain ⟨w2, hw2⟩ : ∃ w2, w2 = w1.setCell ⟨w.heap.size, 0, none⟩ (.slice p2 n2 c2) := ⟨_, rfl⟩
  rw [← hw2] at M2 R2 O2 B2 ⊢
  have k1 := (vo_cells M2.out).2.2.1
  have k2 := wrA_block R2.out (vo_size _)
  clear hw2 y0 y1 y2 yl f0
  go_wp2_with fail
  exact bodyPost_ret (results_agg1 Try.isAgg28 Try.sizeOf28 _ 2 rfl _ _ _ _ rfl (ldA_block (heap_putV R2.out (by rw [vo_size, vo_size])) (vo_size _))) rfl
    ⟨⟨p2, n2, c2⟩, rfl, ownE_base (ownE_stA O2.out (by rw [Z0.out]; omega)) (by rw [Z0.out]; omega), below_stA B2.out (by omega)⟩
theorem enters_copied : ∀ args w, (callFunc 39 args).run Try.prog w = .ok (.enter 39 args) w := entersE Try.func39 (by kernel_rfl) (by kernel_rfl)
end Go.Proofs.Ytccihllcohnnnaa
namespace Go.Proofs.Ytccihllcohnnnaa
open Go.RowKit
set_option maxRecDepth 100000
section
variable {α : Type} {E : Lie α}
theorem ownE_put {w : World} {base g n cap : Nat} {l : List α} (h : OwnE E w base (.slice (some ⟨g, 0, none⟩) n cap) l) (hn : l.length = n) {i : Nat} (hi : i < n) (y : α) {r : Array Value} (hr : r.toList = E.enc y) : OwnE E (stA w (.pointer (some ⟨g, i * E.n, none⟩)) (.agg r)) base (.slice (some ⟨g, 0, none⟩) n cap) (l.set i y) := by
  subst hn
  unfold OwnE at h ⊢
  obtain ⟨_, h2⟩ := h
  rcases h2 with ⟨e, _⟩ | ⟨g', cap', cur, e, hb, hg, hc, hm, hs, ht⟩
  · cases e
  · injection e with e1 _ e3
    injection e1 with e1
    injection e1 with e1
    subst e1 e3
    have hsz : r.size = E.n := by rw [← Array.length_toList, hr, E.len]
    have hmul : (i + 1) * E.n ≤ l.length * E.n := Nat.mul_le_mul hi (Nat.le_refl _)
    have hcap : l.length * E.n ≤ cap * E.n := Nat.mul_le_mul hc (Nat.le_refl _)
    have hsucc : (i + 1) * E.n = i * E.n + E.n := Nat.succ_mul _ _
    have hfit : i * E.n + r.size ≤ cur.size := by omega
    refine ⟨by rw [cellsE_length], .inr ⟨g, cap, putSeg cur (i * E.n) r, by rw [List.length_set], hb, heap_stA_same hg hfit, by rw [List.length_set]; exact hc, hm, by rw [putSeg_size hfit, hs], ?_⟩⟩
    have h1 : (cellsE E (l.take i)).length = i * E.n := by rw [cellsE_length, List.length_take, Nat.min_eq_left (by omega)]
    have h3 : (E.enc l[i]).length = E.n := E.len _
    have ht' := ht
    rw [cellsE_cut l hi] at ht'
    have t1 : cur.toList.take (i * E.n) = cellsE E (l.take i) := by
      have := congrArg (List.take (i * E.n)) ht'
      rw [List.take_take, Nat.min_eq_left (by omega), List.take_left' h1] at this
      exact this
    have t2 : (cur.toList.drop (i * E.n + E.n)).take (l.length * E.n - (i * E.n + E.n)) = cellsE E (l.drop (i + 1)) := by
      have := congrArg (List.drop (i * E.n + E.n)) ht'
      rw [List.drop_take, ← List.append_assoc, List.drop_left' (by rw [List.length_append, h1, h3])] at this
      exact this
    rw [List.length_set, cellsE_set l hi]
    unfold putSeg
    rw [hsz, hr, t1]
    have e4 : (cellsE E (l.take i) ++ E.enc y).length = i * E.n + E.n := by rw [List.length_append, h1, E.len]
    rw [← List.append_assoc, List.toList_toArray, List.take_append, e4, List.take_of_length_le (by rw [e4]; omega), t2, List.append_assoc]
end
end Go.Proofs.Ytccihllcohnnnaa
namespace Go.Proofs.Ytccihllcohnnnaa
open Go.RowKit
set_option maxRecDepth 100000

/-- Put: what is answered besides lies where the votes lay, or is new. -/
def VoErO (v : Vt) (k n : Nat) (s : SlV) (w : World) (e : Ending) (w' : World) : Prop := ∃ s' : SlV, e = .returned (.tuple #[.agg (vo ⟨s', v.out⟩), .int .i64 (k : Int), .int .i64 (n : Int)]) ∧ SlE Elt w' (sv s') v.l ∧ Below w.heap.size w w' ∧ ∀ b, (sv s').ownBlock = some b → (sv s).ownBlock = some b ∨ w.heap.size ≤ b
end Go.Proofs.Ytccihllcohnnnaa
namespace Go.Proofs.Ytccihllcohnnnaa
open Go.RowKit
set_option maxRecDepth 100000

/-- Votes, a root, an empty result in variables. -/
structure Pw (w W : World) (s : SlV) (v : Vt) (r : Rt) : Prop where
  a : Vw w W w.heap.size s v
  u : W.heap[w.heap.size + 1]? = some (.cells (rc r) 39 (0, 0))
  r : W.heap[w.heap.size + 2]? = some (.cells (vo zvo) 28 (0, 0))
theorem Pw.kp {w W W' : World} {s : SlV} {v : Vt} {r : Rt} (h : Pw w W s v r) (g : Below W.heap.size W W') : Pw w W' s v r := ⟨h.a.keep g, blk_keep g h.u, blk_keep g h.r⟩
theorem pw_new {w W : World} {s : SlV} {v : Vt} {r : Rt} (hW : W = ((w.alloc (.cells (vo ⟨s, v.out⟩) 28)).alloc (.cells (rc r) 39)).alloc (.cells (vo zvo) 28)) (h : SlE Elt w (sv s) v.l) : Pw w W s v r ∧ W.heap.size = w.heap.size + 3 := by
  obtain ⟨g, m, n, o, z⟩ := heap3 w _ _ _ _ _ _ W hW
  exact ⟨⟨⟨m, slE_keep g h, g⟩, n, o⟩, z⟩
theorem bit_sum {j : Nat} (hj : j < 64) (out : UInt64) : IntKind.u64.wrap ((out.toNat : Int) + (bitN (j : Int) : Int)) = ((out + bitU j).toNat : Int) := by
  have h1 : bitN (j : Int) = (bitU j).toNat := by
    unfold bitN bitU
    rw [if_pos ⟨by omega, by omega⟩, Int.toNat_natCast, UInt64.toNat_ofNat', Nat.mod_eq_of_lt (Nat.pow_lt_pow_right (by decide) hj)]
  rw [h1, IntKind.wrap_u64, UInt64.toNat_add]
  omega
end Go.Proofs.Ytccihllcohnnnaa
