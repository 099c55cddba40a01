/-
  The document's own Sort, walked.
-/
import Derived.Test.YtecppjbbodpcnaaRootN
import Derived.Deep.RegionLaw
namespace Go.Proofs.Ytecppjbbodpcnaa
open Go.RowKit

/-- A root put into a list, ahead of place j. -/
def putAt (m : List Rt) (j : Nat) (x : Rt) : List Rt := (m.take j ++ [x]) ++ m.drop j
theorem take_drop_mem (m : List Rt) (j : Nat) (y : Rt) : y ∈ m ↔ y ∈ m.take j ∨ y ∈ m.drop j := by
  conv => lhs; rw [← List.take_append_drop j m]
  rw [List.mem_append]
theorem putAt_mem (m : List Rt) (j : Nat) (x y : Rt) : y ∈ putAt m j x ↔ y ∈ m ∨ y = x := by
  unfold putAt
  rw [List.mem_append, List.mem_append, take_drop_mem m j y, List.mem_singleton]
  constructor
  · rintro ((h | h) | h)
    · exact .inl (.inl h)
    · exact .inr h
    · exact .inl (.inr h)
  · rintro ((h | h) | h)
    · exact .inl (.inl h)
    · exact .inr h
    · exact .inl (.inr h)
theorem putAt_rising {m : List Rt} (h : Rising m) (j : Nat) (x : Rt) (h1 : ∀ y ∈ m.take j, lessR y x = true) (h2 : ∀ y ∈ m.drop j, lessR x y = true) : Rising (putAt m j x) := by
  unfold putAt Rising
  rw [List.pairwise_append, List.pairwise_append]
  refine ⟨⟨h.sublist (List.take_sublist _ _), List.pairwise_singleton _ _, ?_⟩, h.sublist (List.drop_sublist _ _), ?_⟩
  · intro a ha b hb
    rw [List.mem_singleton] at hb
    rw [hb]; exact h1 a ha
  · intro a ha b hb
    rw [List.mem_append, List.mem_singleton] at ha
    rcases ha with ha | rfl
    · exact lessR_trans (h1 a ha) (h2 b hb)
    · exact h2 b hb
/-- All ahead of place j are less than x, if the last of them is. -/
theorem take_less {m : List Rt} (h : Rising m) (j : Nat) (hj : j < m.length) (x : Rt) (hx : lessR m[j] x = true) : ∀ y ∈ m.take (j + 1), lessR y x = true := by
  intro y hy
  rw [List.take_succ_eq_append_getElem hj, List.mem_append, List.mem_singleton] at hy
  rcases hy with hy | rfl
  · obtain ⟨i, hi, rfl⟩ := List.getElem_of_mem hy
    rw [List.length_take] at hi
    rw [List.getElem_take]
    exact lessR_trans (List.pairwise_iff_getElem.1 h i j (by omega) hj (by omega)) hx
  · exact hx
theorem drop_less {m : List Rt} (j : Nat) (hj : j < m.length) (x : Rt) (hx : lessR x m[j] = true) (h : ∀ y ∈ m.drop (j + 1), lessR x y = true) : ∀ y ∈ m.drop j, lessR x y = true := by
  intro y hy
  rw [List.drop_eq_getElem_cons hj] at hy
  rcases List.mem_cons.1 hy with rfl | hy
  · exact hx
  · exact h y hy

/-! ### s[l:] and s[:h] of a list of roots -/
def cutF (v lo : Value) : Option Value :=
  match v, lo with
  | .slice a len cap, .int _ l => if 0 ≤ l ∧ l ≤ len then some (sliced a l.toNat len cap 32) else none
  | _, _ => none
def cutT (v hi : Value) : Option Value :=
  match v, hi with
  | .slice a _ cap, .int _ h => if 0 ≤ h ∧ h ≤ cap then some (sliced a 0 h.toNat cap 32) else none
  | _, _ => none
def vOut (o : Option Value) (w : World) (r : Result Next) : Result Next :=
  match o with
  | some v => .ok (.value v) w
  | none => r
@[go_sem] theorem vOut_some (v : Value) (w : World) (r : Result Next) : vOut (some v) w r = .ok (.value v) w := rfl
theorem under_roots : Try.prog.underlying 24 = some (.slice (Try.prog.elem 24)) := by simp [Program.elem, Try.underlying24]
theorem elem_roots : Try.prog.elem 24 = 23 := by simp [Program.elem, Try.underlying24]
@[go_sem ↓] theorem slice_from_roots (ρ : Operand → Value) (dst : Option Tmp) (x lo : Operand) (ty : TypeId) (pos : String) (after : Array Edge) (guard : Option (Nat × Bool)) (w : World) :
    (execOp ρ { dst, op := .slice 24 x (some lo) none none, type := ty, pos, after, guard }).run Try.prog w = vOut (cutF (ρ x) (ρ lo)) w (opRest Try.prog ρ { dst, op := .slice 24 x (some lo) none none, type := ty, pos, after, guard } w) := by
  cases h : cutF (ρ x) (ρ lo) with
  | none => rfl
  | some v =>
    unfold cutF at h
    split at h
    · rename_i a len cap k l hx hl
      split at h
      · rename_i hb
        have hv := Option.some.inj h
        subst hv
        unfold execOp
        simp only [hx, hl, Option.map_some, Option.map_none, Sem.run_bind]
        rw [run_sliceAt_slice w _ _ _ _ _ under_roots, run_slice_l w _ a len cap under_roots k l hb.1 hb.2, elem_roots, Try.sizeOf23]
        rfl
      · cases h
    · cases h
@[go_sem ↓] theorem slice_to_roots (ρ : Operand → Value) (dst : Option Tmp) (x hi : Operand) (ty : TypeId) (pos : String) (after : Array Edge) (guard : Option (Nat × Bool)) (w : World) :
    (execOp ρ { dst, op := .slice 24 x none (some hi) none, type := ty, pos, after, guard }).run Try.prog w = vOut (cutT (ρ x) (ρ hi)) w (opRest Try.prog ρ { dst, op := .slice 24 x none (some hi) none, type := ty, pos, after, guard } w) := by
  cases h : cutT (ρ x) (ρ hi) with
  | none => rfl
  | some v =>
    unfold cutT at h
    split at h
    · rename_i a len cap k l hx hl
      split at h
      · rename_i hb
        have hv := Option.some.inj h
        subst hv
        unfold execOp
        simp only [hx, hl, Option.map_some, Option.map_none, Sem.run_bind]
        rw [run_sliceAt_slice w _ _ _ _ _ under_roots, run_slice_h w _ a len cap under_roots k l hb.1 hb.2, elem_roots, Try.sizeOf23]
        rfl
      · cases h
    · cases h
theorem owns_shape {w : World} {base : Nat} {v : Value} {m : List Rt} (h : w.ownsRow base 23 32 v m.length (cellsL m)) :
    ∃ p cap, v = .slice p m.length cap ∧ m.length ≤ cap ∧ (m ≠ [] → ∃ g, p = some ⟨g, 0, none⟩) := by
  rcases h.2 with ⟨rfl, h0⟩ | ⟨g, cap, cur, rfl, _, _, hn1, _⟩
  · exact ⟨none, 0, by rw [h0], by omega, fun hm => absurd (List.length_eq_zero_iff.1 h0) hm⟩
  · exact ⟨_, _, rfl, hn1, fun _ => ⟨g, rfl⟩⟩
/-- s[j:], wherever s lies. -/
theorem cut_from (p : Option Addr) (cap : Nat) (m : List Rt) (hc : m.length ≤ cap) (j : Nat) (hj : j ≤ m.length) : ∃ vr, cutF (.slice p m.length cap) (.int .i64 (j : Int)) = some vr ∧ ∀ (w : World) (base : Nat), w.ownsRow base 23 32 (.slice p m.length cap) m.length (cellsL m) → SlR w vr (m.drop j) := by
  refine ⟨sliced p j m.length cap 32, ?_, fun w base h => ?_⟩
  · show (if 0 ≤ (j : Int) ∧ (j : Int) ≤ (m.length : Int) then some (sliced p (j : Int).toNat m.length cap 32) else none) = _
    rw [if_pos (by omega), Int.toNat_natCast]
  · unfold sliced
    by_cases e : m.drop j = []
    · have hl : m.length - j = 0 := by
        have := congrArg List.length e
        simpa using this
      rw [e, hl]
      exact slR_nil _ _ _
    · have hlt : j < m.length := by
        rcases Nat.lt_or_ge j m.length with h | h
        · exact h
        · exact absurd (List.drop_of_length_le h) e
      rcases h.2 with ⟨h1, h0⟩ | ⟨g, cap', cur, h1, hg1, hg2, hn1, hn2, hn3, hn4⟩
      · omega
      · injection h1 with e1 _ e3
        subst e1 e3
        rw [if_neg (by omega)]
        refine ⟨some ⟨g, j * 32, none⟩, cap - j, by simp [Addr.add_mid], .inr ⟨g, j * 32, rfl, (Array.getElem?_eq_some_iff.1 hg2).1, fun i hi => ?_⟩⟩
        have hi' : j + i < m.length := by rw [List.length_drop] at hi; omega
        have := ldA_of_holds (holds_of_row hg2 hn4) (j + i) (by simpa using hi')
        rw [show j * 32 + i * 32 = 0 + (j + i) * 32 by omega]
        simpa using this
/-- s[:j], s the call's own. -/
theorem cut_to (p : Option Addr) (cap : Nat) (m : List Rt) (hc : m.length ≤ cap) (j : Nat) (hj : j ≤ m.length) : ∃ vt, cutT (.slice p m.length cap) (.int .i64 (j : Int)) = some vt ∧ (∀ (w : World) (base : Nat), w.ownsRow base 23 32 (.slice p m.length cap) m.length (cellsL m) → w.ownsRow base 23 32 vt (m.take j).length (cellsL (m.take j))) ∧ vt.ownBlock = (Value.slice p m.length cap).ownBlock := by
  refine ⟨.slice p j cap, ?_, fun w base h => ?_, ?_⟩
  · show (if 0 ≤ (j : Int) ∧ (j : Int) ≤ (cap : Int) then some (sliced p 0 (j : Int).toNat cap 32) else none) = _
    rw [if_pos (by omega), Int.toNat_natCast]
    unfold sliced
    simp
    intro h0
    cases p <;> simp [Addr.add]
  · have hl : (m.take j).length = j := by rw [List.length_take]; omega
    rw [hl]
    refine ⟨by rw [cellsL_length, hl], ?_⟩
    rcases h.2 with ⟨h1, h0⟩ | ⟨g, cap', cur, h1, hg1, hg2, hn1, hn2, hn3, hn4⟩
    · injection h1 with e1 _ e3
      subst e1 e3
      left
      have : j = 0 := by omega
      subst this
      exact ⟨rfl, rfl⟩
    · injection h1 with e1 _ e3
      subst e1 e3
      right
      refine ⟨g, cap, cur, rfl, hg1, hg2, by omega, hn2, hn3, ?_⟩
      have e : cellsL m = cellsL (m.take j) ++ cellsL (m.drop j) := by rw [← cellsL_append, List.take_append_drop]
      have h3 : (cur.toList.take (m.length * 32)).take (j * 32) = (cellsL m).take (j * 32) := by rw [hn4]
      rw [List.take_take, Nat.min_eq_left (by omega), e, List.take_append_of_le_length (by rw [cellsL_length, hl]; omega)] at h3
      exact h3.trans (List.take_of_length_le (by rw [cellsL_length, hl]; omega))
  · cases p <;> rfl

theorem owns_lt {w : World} {base : Nat} {e : TypeId} {size : Nat} {v : Value} {n : Nat} {xs : List Value} (h : w.ownsRow base e size v n xs) {q : Nat} (hq : v.ownBlock = some q) : base ≤ q ∧ q < w.heap.size := by
  rcases h.2 with ⟨rfl, _⟩ | ⟨g, cap, cur, rfl, hg1, hg2, _⟩
  · cases hq
  · have : g = q := by simpa [Value.ownBlock] using hq
    subst this
    exact ⟨hg1, (Array.getElem?_eq_some_iff.1 hg2).1⟩

set_option maxRecDepth 100000 in
set_option maxHeartbeats 8000000 in
theorem refSort_ne (b off cap : Nat) (l : List Rt) (w : World) (hlen : l.length ≤ 100) (hc : ∀ i (h : i < l.length), ldA w (.pointer (some ⟨b, off + i * 32, none⟩)) 32 = some (rc l[i])) :
    Calls Try.prog 15 #[.slice (some ⟨b, off, none⟩) l.length cap] w (SortIs l w) := by
  obtain ⟨i0, hi, hz0, hz1, hz2⟩ := info_parts Try.infoRoot
  have HC := Lib.hid hc; clear hc
  go_enter Try.func15, Try.ntmps15
  go_wp2_with fail
  go_loopw [3, 4] (fun v i wr => ∃ (k : Nat) (m : List Rt), k ≤ l.length ∧ i = .int .i64 k ∧ wr.ownsRow w.heap.size 23 32 v m.length (cellsL m) ∧ Rising m ∧ (∀ x, x ∈ m ↔ x ∈ l.take k) ∧ m.length ≤ k ∧ Below w.heap.size w wr) (fun _ i _ => l.length - (intOf i).toNat)
  case atStart => exact ⟨0, [], Nat.zero_le _, rfl, owns_none _ _, List.Pairwise.nil, fun x => by simp, Nat.le_refl _, Below.refl _ _⟩
  case round =>
    obtain ⟨k, m, hk, rfl, hrow, hris, hmem, hml, hnx⟩ := hrel
    have HRIS := Lib.hid hris
    have HMEM := Lib.hid hmem
    have HROW := Lib.hid hrow
    clear hris hmem
    obtain ⟨wo, rfl⟩ : ∃ wo : World, wo = wr := ⟨_, rfl⟩
    by_cases hlt : k < l.length
    · obtain ⟨p, c2, rfl, hcap, hpm⟩ := owns_shape hrow
      clear hrow
      have HPM := Lib.hid hpm; clear hpm
      have hx := keep hnx (HC.out k hlt)
      have i1 : (0 : Int) ≤ (k : Int) := by omega
      have i2 : (k : Int) < (l.length : Int) := by omega
      have hm100 : m.length ≤ 100 := by omega
      go_wp2_with fail
      go_loopw [5] (fun a wr => ∃ j : Nat, j ≤ m.length ∧ a = .int .i64 j ∧ (∀ y ∈ m.drop j, lessR l[k] y = true) ∧ Below wo.heap.size wo wr) (fun a _ => (intOf a).toNat)
      case atStart => exact ⟨m.length, Nat.le_refl _, rfl, fun y hy => by simp at hy, Below.refl _ _⟩
      case round =>
        obtain ⟨j, hj, rfl, hdr, hb⟩ := hrel
        have HDR := Lib.hid hdr; clear hdr
        by_cases h0 : j = 0
        · have d0 : decide (0 < j) = false := by simp; omega
          have HTK : Hid (∀ y ∈ m.take j, lessR y l[k] = true) := by
            intro y hy
            rw [h0] at hy
            simp at hy
          clear h0
          go_wp2_with fail
          refine wp_region_grown (by kernel_rfl) (by kernel_rfl) ?_
          repeat (first | go_big_quiet_step (fail) | quiet_step (fail))
          refine wpQuiet_nil ?_
          rintro w6 ⟨⟨_, g6⟩, rfl⟩
          go_wp2_with fail
          refine wp_region_grown (by kernel_rfl) (by kernel_rfl) ?_
          repeat (first | go_big_quiet_step (fail) | quiet_step (fail))
          refine wpQuiet_nil ?_
          rintro w7 ⟨⟨_, g7'⟩, rfl⟩
          have g7 := belowT (belowT hb g6) g7'
          clear g7' g6 hb
          obtain ⟨vr, hvr, hsr⟩ := cut_from p c2 m hcap j hj
          obtain ⟨vt, hvt, hst, hbt⟩ := cut_to p c2 m hcap j hj
          have HSR := Lib.hid hsr
          have HST := Lib.hid hst
          have HBT := Lib.hid hbt
          clear hsr hst hbt
          have HB7 := Lib.hid (hnx.trans (g7.mono hnx.size))
          have HO7 := Lib.hid (owns_below HROW.out g7)
          have HX7 := Lib.hid (keep g7 hx)
          have s7 := HB7.out.size
          clear hx
          go_wp2_with (at_builtin; refine wpList_append_roots w7 rfl (.const (.slice none 0 0)) (.tmp 47) rfl w7.heap.size _ [] rfl (owns_none _ _) _ (m.drop j) rfl (HSR.out _ _ HO7.out) (by simp; omega) (Nat.le_refl _) ?_; intro v8 w8 o8 n8)
          have g8 := below_none n8
          have HB8 := Lib.hid (HB7.out.trans (g8.mono HB7.out.size))
          have HO8 := Lib.hid (HST.out _ _ (owns_below HO7.out g8))
          have x8 := keep g8 HX7.out
          have s8 := HB8.out.size
          have HE8 : Hid (v8.ownBlock ≠ vt.ownBlock ∨ v8.ownBlock = none) := by
            cases hv8 : v8.ownBlock with
            | none => exact .inr rfl
            | some q =>
              left
              intro e
              have h1 := (o8.lt q hv8).1
              have h2 := (owns_lt HO7.out (by rw [← HBT.out, ← e])).2
              omega
          clear HX7
          go_wp2_with fail
          go_region_law ((refine step_append_own _ rfl (.tmp 51) (.tmp 56) 24 rfl w.heap.size 23 i0 (.agg (rc zr)) 32 32 Try.underlying24 hi hz0 hz1 hz2 (rc_size zr) (by decide) vt _ _ rfl (show (w8.drew.alloc _).ownsRow _ _ _ _ _ _ from World.ownsRow.alloc (show w8.drew.ownsRow _ _ _ _ _ _ from HO8.out) _) ⟨w8.heap.size, 0, none⟩ 1 1 (rc l[k]).toList rfl (by simp [rc_size]) (cell_row_new _ _ _) (rc_ones _) (by rw [List.length_take]; unfold maxLen; omega) (by rw [List.length_take]; omega) (by simp; omega) ?_; intro v9 w9 o9 n9 _))
          all_goals
            have o9' : w9.ownsRow w.heap.size 23 32 v9 (m.take j ++ [l[k]]).length (cellsL (m.take j ++ [l[k]])) := by rw [List.length_append, cellsL_snoc]; exact o9
            have HR9 := Lib.hid (slR_of_owns (((World.ownsRow.alloc (show w8.drew.ownsRow _ _ _ _ _ _ from o8) _)).kept n9 HE8.out.symm))
            have s9 := n9.size
            simp at s9
            have HB9 := Lib.hid ((HB8.out.drew.alloc (by show w.heap.size ≤ w8.heap.size; omega) _).grown n9 (by simp; omega) (fun q hq => (HO8.out.lt q hq).1))
            go_wp2_with (at_builtin; refine wpList_append_roots w9 rfl (.tmp 58) (.tmp 59) rfl w.heap.size _ (m.take j ++ [l[k]]) rfl o9' _ (m.drop j) rfl HR9.out (by simp; omega) (by omega) ?_; intro v10 w10 o10 n10)
            have s10 := n10.size
            have HB10 := Lib.hid (HB9.out.grown n10 (by omega) (fun q hq => (o9'.lt q hq).1))
            go_roundw
            case rel =>
              refine ⟨k + 1, putAt m j l[k], by omega, by go_num, o10, putAt_rising HRIS.out j l[k] HTK.out HDR.out, fun y => ?_, ?_, HB10.out⟩
              · rw [putAt_mem, HMEM.out y, List.take_succ_eq_append_getElem hlt, List.mem_append, List.mem_singleton]
              · unfold putAt; simp; omega
            case measure => simp [intOf]; omega
        · obtain ⟨g, rfl⟩ := HPM.out (by rintro rfl; simp at hj; omega)
          have d0 : decide (0 < j) = true := by simp; omega
          have hj1 : 1 ≤ j := by omega
          clear h0
          have jlt : j - 1 < m.length := by omega
          have hy0 : ldA wo (.pointer (some ⟨g, (j - 1) * 32, none⟩)) 32 = some (rc m[j - 1]) := by
            have h := slR_of_owns HROW.out
            obtain ⟨p2, c3, e, h2⟩ := h
            injection e with e1 e2 e3
            rcases h2 with h2 | ⟨b2, o2, e4, _, h5⟩
            · rw [h2] at jlt; simp at jlt
            · rw [e4] at e1
              injection e1 with e1
              injection e1 with e5 e6 e7
              have := h5 (j - 1) jlt
              rw [← e5, ← e6, Nat.zero_add] at this
              exact this
          have j0 : (0 : Int) ≤ (j : Int) - 1 := by omega
          have j1 : (j : Int) - 1 < (m.length : Int) := by omega
          have x1 : IntKind.i64.wrap ((j : Int) - 1) = (j : Int) - 1 := IntWalk.i64_in _ (by omega)
          have x2 : ((j : Int) - 1).toNat = j - 1 := by omega
          have lx := fun q : Wd wr => ldA_wd (keep hb hx) (by decide) q
          have ly := fun q : Wd wr => ldA_wd (keep hb hy0) (by decide) q
          have cl := fun W => refLess_any l[k] m[j - 1] W
          cases hL : lessR l[k] m[j - 1]
          · rw [hL] at cl
            have HLL := Lib.hid hL; clear hL
            go_wp2_with fail
            refine wp_region_grown (by kernel_rfl) (by kernel_rfl) ?_
            repeat (first | go_big_quiet_step (((go_at_call 12; exact calls_wd (cl _)))) | quiet_step (((go_at_call 12; exact calls_wd (cl _)))))
            refine wpQuiet_nil ?_
            rintro w6 ⟨⟨_, g6⟩, rfl⟩
            have b6 := belowT hb g6
            have lx6 := fun q : Wd w6 => ldA_wd (keep b6 hx) (by decide) q
            have ly6 := fun q : Wd w6 => ldA_wd (keep b6 hy0) (by decide) q
            clear lx ly
            cases hE : eqB m[j - 1] l[k]
            · go_wp2_with fail
              refine wp_region_grown (by kernel_rfl) (by kernel_rfl) ?_
              repeat (first | go_big_quiet_step (fail) | quiet_step (fail))
              refine wpQuiet_nil ?_
              rintro w7 ⟨⟨_, g7'⟩, rfl⟩
              have g7 := belowT b6 g7'
              have HTK : Hid (∀ y ∈ m.take j, lessR y l[k] = true) := by
                have hlt2 : lessR m[j - 1] l[k] = true := by
                  cases e : lessR m[j - 1] l[k]
                  · have := lessR_tri e HLL.out
                    rw [this, eqB_self] at hE
                    cases hE
                  · rfl
                have := take_less HRIS.out (j - 1) jlt l[k] hlt2
                rw [show j - 1 + 1 = j by omega] at this
                exact this
              clear hE lx6 ly6 cl g7' g6 b6 hb hy0 x1 x2 j0 j1
              obtain ⟨vr, hvr, hsr⟩ := cut_from (some ⟨g, 0, none⟩) c2 m hcap j hj
              obtain ⟨vt, hvt, hst, hbt⟩ := cut_to (some ⟨g, 0, none⟩) c2 m hcap j hj
              have HSR := Lib.hid hsr
              have HST := Lib.hid hst
              have HBT := Lib.hid hbt
              clear hsr hst hbt
              have HB7 := Lib.hid (hnx.trans (g7.mono hnx.size))
              have HO7 := Lib.hid (owns_below HROW.out g7)
              have HX7 := Lib.hid (keep g7 hx)
              have s7 := HB7.out.size
              clear hx
              go_wp2_with (at_builtin; refine wpList_append_roots w7 rfl (.const (.slice none 0 0)) (.tmp 47) rfl w7.heap.size _ [] rfl (owns_none _ _) _ (m.drop j) rfl (HSR.out _ _ HO7.out) (by simp; omega) (Nat.le_refl _) ?_; intro v8 w8 o8 n8)
              have g8 := below_none n8
              have HB8 := Lib.hid (HB7.out.trans (g8.mono HB7.out.size))
              have HO8 := Lib.hid (HST.out _ _ (owns_below HO7.out g8))
              have x8 := keep g8 HX7.out
              have s8 := HB8.out.size
              have HE8 : Hid (v8.ownBlock ≠ vt.ownBlock ∨ v8.ownBlock = none) := by
                cases hv8 : v8.ownBlock with
                | none => exact .inr rfl
                | some q =>
                  left
                  intro e
                  have h1 := (o8.lt q hv8).1
                  have h2 := (owns_lt HO7.out (by rw [← HBT.out, ← e])).2
                  omega
              clear HX7
              go_wp2_with fail
              go_region_law ((refine step_append_own _ rfl (.tmp 51) (.tmp 56) 24 rfl w.heap.size 23 i0 (.agg (rc zr)) 32 32 Try.underlying24 hi hz0 hz1 hz2 (rc_size zr) (by decide) vt _ _ rfl (show (w8.drew.alloc _).ownsRow _ _ _ _ _ _ from World.ownsRow.alloc (show w8.drew.ownsRow _ _ _ _ _ _ from HO8.out) _) ⟨w8.heap.size, 0, none⟩ 1 1 (rc l[k]).toList rfl (by simp [rc_size]) (cell_row_new _ _ _) (rc_ones _) (by rw [List.length_take]; unfold maxLen; omega) (by rw [List.length_take]; omega) (by simp; omega) ?_; intro v9 w9 o9 n9 _))
              all_goals
                have o9' : w9.ownsRow w.heap.size 23 32 v9 (m.take j ++ [l[k]]).length (cellsL (m.take j ++ [l[k]])) := by rw [List.length_append, cellsL_snoc]; exact o9
                have HR9 := Lib.hid (slR_of_owns (((World.ownsRow.alloc (show w8.drew.ownsRow _ _ _ _ _ _ from o8) _)).kept n9 HE8.out.symm))
                have s9 := n9.size
                simp at s9
                have HB9 := Lib.hid ((HB8.out.drew.alloc (by show w.heap.size ≤ w8.heap.size; omega) _).grown n9 (by simp; omega) (fun q hq => (HO8.out.lt q hq).1))
                go_wp2_with (at_builtin; refine wpList_append_roots w9 rfl (.tmp 58) (.tmp 59) rfl w.heap.size _ (m.take j ++ [l[k]]) rfl o9' _ (m.drop j) rfl HR9.out (by simp; omega) (by omega) ?_; intro v10 w10 o10 n10)
                have s10 := n10.size
                have HB10 := Lib.hid (HB9.out.grown n10 (by omega) (fun q hq => (o9'.lt q hq).1))
                go_roundw
                case rel =>
                  refine ⟨k + 1, putAt m j l[k], by omega, by go_num, o10, putAt_rising HRIS.out j l[k] HTK.out HDR.out, fun y => ?_, ?_, HB10.out⟩
                  · rw [putAt_mem, HMEM.out y, List.take_succ_eq_append_getElem hlt, List.mem_append, List.mem_singleton]
                  · unfold putAt; simp; omega
                case measure => simp [intOf]; omega
            · have HEE := Lib.hid (show m[j - 1] = l[k] by simpa [eqB] using hE)
              go_wp2_with fail
              refine wp_region_grown (by kernel_rfl) (by kernel_rfl) ?_
              repeat (first | go_big_quiet_step (fail) | quiet_step (fail))
              refine wpQuiet_nil ?_
              rintro w7 ⟨⟨_, g7'⟩, rfl⟩
              have g7 := belowT b6 g7'
              have HO7 := Lib.hid (owns_below HROW.out g7)
              have HB7 := Lib.hid (hnx.trans (g7.mono hnx.size))
              go_wp2_with fail
              go_roundw
              case rel =>
                refine ⟨k + 1, m, by omega, by go_num, HO7.out, HRIS.out, fun y => ?_, by omega, HB7.out⟩
                rw [HMEM.out y, List.take_succ_eq_append_getElem hlt, List.mem_append, List.mem_singleton]
                constructor
                · exact fun h => .inl h
                · rintro (h | h)
                  · exact h
                  · rw [h, ← HEE.out, ← HMEM.out]; exact List.getElem_mem _
              case measure => simp [intOf]; omega
          · rw [hL] at cl
            have HLL := Lib.hid hL; clear hL
            go_wp2_with fail
            refine wp_region_grown (by kernel_rfl) (by kernel_rfl) ?_
            repeat (first | go_big_quiet_step (((go_at_call 12; exact calls_wd (cl _)))) | quiet_step (((go_at_call 12; exact calls_wd (cl _)))))
            refine wpQuiet_nil ?_
            rintro w6 ⟨⟨_, g6⟩, rfl⟩
            go_wp2_with fail
            go_roundw
            case rel =>
              refine ⟨j - 1, by omega, by go_num, ?_, belowT hb g6⟩
              have hd := HDR.out
              rw [show j = j - 1 + 1 by omega] at hd
              exact drop_less (j - 1) jlt l[k] HLL.out hd
            case measure => simp [intOf]; omega
    · obtain rfl : k = l.length := by omega
      have HS := Lib.hid (slR_of_owns hrow)
      have HE := Lib.hid (srt_eq (l := l) HRIS.out (fun x => by rw [HMEM.out x, List.take_length]))
      go_wp2_with fail
      go_ret
      exact ⟨_, rfl, by rw [← HE.out]; exact HS.out, hnx⟩
end Go.Proofs.Ytecppjbbodpcnaa
