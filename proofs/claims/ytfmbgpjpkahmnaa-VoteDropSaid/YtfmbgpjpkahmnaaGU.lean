/-
  A list of latest votes: slices.Clone, walked.
  Lists of latest votes held against one another: slices.Equal, walked.
-/
import Derived.Test.YtfmbgpjpkahmnaaVoteM
import Derived.Test.YtfmbgpjpkahmnaaGD
import Derived.Laws.Cover3
namespace Go.Proofs.Ytfmbgpjpkahmnaa
open Go.RowKit

theorem eq_nilLt (p : Option Addr) (n cap : Nat) (w : World) : (binOp .eql 22 (.slice p n cap) (.slice none 0 0)).run Try.prog w = .ok (.bool p.isNone) w := by
  have h := run_equalIn_slice_nil (P := Try.prog) w 9999 22 41 p n cap Try.underlying22
  simp [binOp, Op.equal, Op.maxDepth, h]
theorem KltB : KnownB Try.prog Elt 22 48 := ⟨Try.underlying22, .agg (lt zlt), info_lt, by show ((lt zlt)).size = _; exact lt_size _⟩
def SlIsT (l : List Lt) (w : World) (e : Ending) (w' : World) : Prop := ∃ v, e = .returned v ∧ OwnE Elt w' w.heap.size v l ∧ Below w.heap.size w w'

set_option maxRecDepth 100000 in
set_option maxHeartbeats 1000000 in
theorem cloneLt_n (p : Option Addr) (n cap : Nat) (l : List Lt) (w : World) (h : SlE Elt w (.slice p n cap) l) (hl : l.length = n) (hn : n * 48 ≤ 140737488355328) :
    Calls Try.prog 29 #[.slice p n cap] w (SlIsT l w) := by
  have HS := Lib.hid h
  have HL := Lib.hid hl
  have HN := Lib.hid hn
  cases p with
  | none =>
    have hn0 : l = [] := by
      obtain ⟨p, cap', e, _, h⟩ := h
      injection e with e
      subst e
      exact h.resolve_right (fun ⟨_, _, e, _⟩ => by cases e)
    have e : n = 0 := by rw [← hl, hn0]; rfl
    subst hn0 e
    clear HS h hl hn
    have he : ∀ w, (binOp .eql 22 (.slice none 0 cap) (.slice none 0 0)).run Try.prog w = .ok (.bool true) w := fun w => eq_nilLt none 0 cap w
    go_enter Try.func29, Try.ntmps29
    go_wp2_with fail
    go_ret
    exact ⟨_, rfl, ownE_nil _ _ _, Below.refl _ _⟩
  | some a =>
    have HO : Hid (OwnE Elt (w.alloc (.cells #[] 41)) w.heap.size (.slice (some ⟨w.heap.size, 0, none⟩) 0 0) []) := ownE_lit (E := Elt) w [] 0 rfl (by simp [maxLen]) #[] rfl _ rfl
    have HB : Hid (Below w.heap.size w (w.alloc (.cells #[] 41))) := below1
    clear h hl hn
    have he : ∀ w, (binOp .eql 22 (.slice (some a) n cap) (.slice none 0 0)).run Try.prog w = .ok (.bool false) w := fun w => eq_nilLt (some a) n cap w
    go_enter Try.func29, Try.ntmps29
    go_wp2_with (at_builtin; refine wpList_append_B KltB _ rfl (.tmp 5) (.tmp 6) rfl w.heap.size _ [] rfl HO.out _ l rfl (slE_keep HB.out HS.out) (by have := HL.out; have := HN.out; simp [maxLen]; omega) (by have := HL.out; have := HN.out; simp; omega) (by simp) ?_; intro v2 w2 ho2 hg2)
    go_ret
    exact ⟨_, rfl, by simpa using ho2, HB.out.trans (hg2.own HO.out (by simp))⟩
theorem cloneLt (v : Value) (l : List Lt) (w : World) (h : SlE Elt w v l) (hn : l.length * 48 ≤ 140737488355328) :
    Calls Try.prog 29 #[v] w (SlIsT l w) := by
  have k := h
  obtain ⟨p, cl, rfl, _⟩ := slE_shape h
  exact cloneLt_n p _ cl l w k rfl hn
theorem enters_cloneLt : ∀ args w, (callFunc 29 args).run Try.prog w = .ok (.enter 29 args) w := entersE Try.func29 (by kernel_rfl) (by kernel_rfl)
end Go.Proofs.Ytfmbgpjpkahmnaa
namespace Go.Proofs.Ytfmbgpjpkahmnaa
open Go.RowKit

set_option maxRecDepth 100000 in
set_option maxHeartbeats 1000000 in
theorem equalLt_ne (p q : Option Addr) (n m cl ck : Nat) (w : World) (hl : n ≠ m) :
    Calls Try.prog 28 #[.slice p n cl, .slice q m ck] w fun e w' => e = .returned (.bool false) ∧ Below w.heap.size w w' := by
  have e1 : ((n : Int) == (m : Int)) = false := by simp; omega
  clear hl
  go_enter Try.func28, Try.ntmps28
  go_wp2_with fail
  go_ret
  exact ⟨rfl, Below.refl _ _⟩

set_option maxRecDepth 100000 in
set_option maxHeartbeats 1000000 in
theorem equalLt_eq (p q : Option Addr) (n cl ck : Nat) (l k : List Lt) (w : World) (h : SlE Elt w (.slice p n cl) l) (h' : SlE Elt w (.slice q n ck) k) (hl : l.length = n) (hk : k.length = n) (hn : n ≤ 1000) :
    Calls Try.prog 28 #[.slice p n cl, .slice q n ck] w fun e w' => e = .returned (.bool (decide (l = k))) ∧ Below w.heap.size w w' := by
  have HS := Lib.hid h
  have HT := Lib.hid h'
  have HL := Lib.hid hl
  have HK := Lib.hid hk
  have HN := Lib.hid hn
  obtain ⟨r, hr⟩ : ∃ r, r = decide (l = k) := ⟨_, rfl⟩
  rw [← hr]
  have HR := Lib.hid hr
  clear h h' hl hk hn hr
  go_enter Try.func28, Try.ntmps28
  go_wp2_with fail
  go_loopw [5, 13] (fun _ i wr => ∃ j : Nat, j ≤ n ∧ i = .int .i64 j ∧ (∀ x, x < j → lat l x = lat k x) ∧ Below w.heap.size w wr) (fun _ i _ => n - (intOf i).toNat)
  case atStart => exact ⟨0, Nat.zero_le _, rfl, fun x hx => absurd hx (Nat.not_lt_zero _), Below.refl _ _⟩
  case round =>
    obtain ⟨j, hj, rfl, hx, hb⟩ := hrel
    have HX := Lib.hid hx
    have HB := Lib.hid hb
    clear hx hb
    by_cases hlt : j < n
    · have i0 : (0 : Int) ≤ (j : Int) := by omega
      have i1 : (j : Int) < (n : Int) := by omega
      have u1 : (j : Int) + 1 < 10000 := by have := HN.out; omega
      obtain ⟨b1, o1, c1, e1, _, q1, x1⟩ := slE_ne HS.out (by have := HL.out; omega)
      injection e1 with e2 _ e3
      subst e2 e3
      obtain ⟨b2, o2, c2, e1, _, q2, x2⟩ := slE_ne HT.out (by have := HK.out; omega)
      injection e1 with e2 _ e3
      subst e2 e3
      have y1 : ldA wr (.pointer (some ⟨b1, o1 + j * 34, none⟩)) 34 = some (lt (lat l j)) := keep HB.out (lats_ld x1 (by have := HL.out; omega))
      have y2 : ldA wr (.pointer (some ⟨b2, o2 + j * 34, none⟩)) 34 = some (lt (lat k j)) := keep HB.out (lats_ld x2 (by have := HK.out; omega))
      clear x1 x2 q1 q2
      by_cases he : lat l j = lat k j
      · have HE := Lib.hid he
        rw [he] at y1
        clear he
        go_wp2_with fail
        go_quiet (fail)
        go_wp2_with fail
        go_roundw
        case rel => exact ⟨j + 1, by omega, by go_num, fun x hx => by
          rcases Nat.lt_succ_iff_lt_or_eq.1 hx with h | rfl
          · exact HX.out x h
          · exact HE.out, belowD HB.out _⟩
        case measure => simp [intOf]; omega
      · have hR : Hid (r = false) := by
          show r = false
          rw [HR.out, decide_eq_false_iff_not]
          intro e; exact he (by rw [e])
        have t1 : decide (lat l j = lat k j) = false := decide_eq_false he
        clear he
        go_wp2_with fail
        go_quiet (fail)
        go_wp2_with fail
        go_ret
        exact ⟨by rw [hR.out]; first | done | rfl, belowD HB.out _⟩
    · obtain rfl : j = n := by omega
      have hR : Hid (r = true) := by
        show r = true
        rw [HR.out, decide_eq_true_iff]
        exact lat_ext (by rw [HL.out, HK.out]) fun i hi => HX.out i (by have := HK.out; omega)
      go_wp2_with fail
      go_ret
      exact ⟨by rw [hR.out]; first | done | rfl, HB.out⟩
/-- Are two lists the same? -/
theorem equalLt_any (s t : SlV) (l k : List Lt) (w : World) (h : SlE Elt w (sv s) l) (h' : SlE Elt w (sv t) k) (hn : l.length ≤ 1000) :
    Calls Try.prog 28 #[sv s, sv t] w fun e w' => e = .returned (.bool (decide (l = k))) ∧ Below w.heap.size w w' := by
  have hs := sv_lenT h
  have ht := sv_lenT h'
  obtain ⟨p, n, cl⟩ := s
  obtain ⟨q, m, ck⟩ := t
  dsimp only at hs ht
  by_cases e : n = m
  · subst e
    exact equalLt_eq p q n cl ck l k w h h' hs ht (by omega)
  · rw [decide_eq_false (fun he => e (by rw [← hs, ← ht, he]))]
    exact equalLt_ne p q n m cl ck w e
theorem enters_equalLt : ∀ args w, (callFunc 28 args).run Try.prog w = .ok (.enter 28 args) w := entersE Try.func28 (by kernel_rfl) (by kernel_rfl)
end Go.Proofs.Ytfmbgpjpkahmnaa
