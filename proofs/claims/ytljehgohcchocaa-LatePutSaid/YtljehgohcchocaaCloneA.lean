/-
  A list of attestations: slices.Clone, walked.
-/
import Derived.Test.YtljehgohcchocaaLateM
import Derived.Test.YtljehgohcchocaaElBig
import Derived.Laws.Cover3
namespace Go.Proofs.Ytljehgohcchocaa
open Go.RowKit
set_option maxRecDepth 100000

theorem eq_nilAa (p : Option Addr) (n cap : Nat) (w : World) : (binOp .eql 22 (.slice p n cap) (.slice none 0 0)).run Try.prog w = .ok (.bool p.isNone) w := by
  have h := run_equalIn_slice_nil (P := Try.prog) w 9999 22 29 p n cap Try.underlying22
  simp [binOp, Op.equal, Op.maxDepth, h]
def SlIsA (l : List Aa) (w : World) (e : Ending) (w' : World) : Prop := ∃ v, e = .returned v ∧ OwnE Eaa w' w.heap.size v l ∧ Below w.heap.size w w'

set_option maxRecDepth 100000 in
set_option maxHeartbeats 1000000 in
theorem cloneAa_n (p : Option Addr) (n cap : Nat) (l : List Aa) (w : World) (h : SlE Eaa w (.slice p n cap) l) (hl : l.length = n) (hn : n * 128 ≤ 140737488355328) :
    Calls Try.prog 19 #[.slice p n cap] w (SlIsA l w) := by
  have HS := Lib.hid h
  have HL := Lib.hid hl
  have HN := Lib.hid hn
  cases p with
  | none =>
    have hn0 : l = [] := by
      obtain ⟨p, cap', e, _, h⟩ := h
      injection e with e
      subst e
      exact h.resolve_right (fun ⟨_, _, e, _⟩ => by cases e)
    have e : n = 0 := by rw [← hl, hn0]; rfl
    subst hn0 e
    clear HS h hl hn
    have he : ∀ w, (binOp .eql 22 (.slice none 0 cap) (.slice none 0 0)).run Try.prog w = .ok (.bool true) w := fun w => eq_nilAa none 0 cap w
    go_enter Try.func19, Try.ntmps19
    go_wp2_with fail
    go_ret
    exact ⟨_, rfl, ownE_nil _ _ _, Below.refl _ _⟩
  | some a =>
    have HO : Hid (OwnE Eaa (w.alloc (.cells #[] 29)) w.heap.size (.slice (some ⟨w.heap.size, 0, none⟩) 0 0) []) := ownE_lit (E := Eaa) w [] 0 rfl (by simp [maxLen]) #[] rfl _ rfl
    have HB : Hid (Below w.heap.size w (w.alloc (.cells #[] 29))) := below1
    clear h hl hn
    have he : ∀ w, (binOp .eql 22 (.slice (some a) n cap) (.slice none 0 0)).run Try.prog w = .ok (.bool false) w := fun w => eq_nilAa (some a) n cap w
    go_enter Try.func19, Try.ntmps19
    go_wp2_with (at_builtin; refine wpList_append_B KaaB _ rfl (.tmp 5) (.tmp 6) rfl w.heap.size _ [] rfl HO.out _ l rfl (slE_keep HB.out HS.out) (by have := HL.out; have := HN.out; simp [maxLen]; omega) (by have := HL.out; have := HN.out; simp; omega) (by simp) ?_; intro v2 w2 ho2 hg2)
    go_ret
    exact ⟨_, rfl, by simpa using ho2, HB.out.trans (hg2.own HO.out (by simp))⟩
theorem cloneAa (v : Value) (l : List Aa) (w : World) (h : SlE Eaa w v l) (hn : l.length * 128 ≤ 140737488355328) :
    Calls Try.prog 19 #[v] w (SlIsA l w) := by
  have k := h
  obtain ⟨p, cl, rfl, _⟩ := slE_shape h
  exact cloneAa_n p _ cl l w k rfl hn
theorem enters_cloneAa : ∀ args w, (callFunc 19 args).run Try.prog w = .ok (.enter 19 args) w := entersE Try.func19 (by kernel_rfl) (by kernel_rfl)
end Go.Proofs.Ytljehgohcchocaa
