/-
  A list of nodes, copied: slices.Clone, walked.
-/
import Derived.Test.YtnehebipikhejaaTmem
import Derived.Test.YtnehebipikhejaaElBig
import Derived.Laws.Cover3
namespace Go.Proofs.Ytnehebipikhejaa
open Go.RowKit

theorem eq_nilNe (p : Option Addr) (n cap : Nat) (w : World) : (binOp .eql 22 (.slice p n cap) (.slice none 0 0)).run Try.prog w = .ok (.bool p.isNone) w := by
  have h := run_equalIn_slice_nil (P := Try.prog) w 9999 22 47 p n cap Try.underlying22
  simp [binOp, Op.equal, Op.maxDepth, h]
theorem KneB : KnownB Try.prog Ene 22 56 := ⟨Try.underlying22, .agg (ne zne), info_ne, by show ((ne zne)).size = _; exact ne_size _⟩
/-- A row of the call's own is answered. -/
def SlIsN (l : List Nd) (w : World) (e : Ending) (w' : World) : Prop := ∃ v, e = .returned v ∧ OwnE Ene w' w.heap.size v l ∧ Below w.heap.size w w'

set_option maxRecDepth 100000 in
set_option maxHeartbeats 1000000 in
theorem cloneNe_n (p : Option Addr) (n cap : Nat) (l : List Nd) (w : World) (h : SlE Ene w (.slice p n cap) l) (hl : l.length = n) (hn : n * 56 ≤ 140737488355328) :
    Calls Try.prog 32 #[.slice p n cap] w (SlIsN l w) := by
  have HS := Lib.hid h
  have HL := Lib.hid hl
  have HN := Lib.hid hn
  cases p with
  | none =>
    have hn0 : l = [] := by
      obtain ⟨p, cap', e, _, h⟩ := h
      injection e with e
      subst e
      exact h.resolve_right (fun ⟨_, _, e, _⟩ => by cases e)
    have e : n = 0 := by rw [← hl, hn0]; rfl
    subst hn0 e
    clear HS h hl hn
    have he : ∀ w, (binOp .eql 22 (.slice none 0 cap) (.slice none 0 0)).run Try.prog w = .ok (.bool true) w := fun w => eq_nilNe none 0 cap w
    go_enter Try.func32, Try.ntmps32
    go_wp2_with fail
    go_ret
    exact ⟨_, rfl, ownE_nil _ _ _, Below.refl _ _⟩
  | some a =>
    have HO : Hid (OwnE Ene (w.alloc (.cells #[] 47)) w.heap.size (.slice (some ⟨w.heap.size, 0, none⟩) 0 0) []) := ownE_lit (E := Ene) w [] 0 rfl (by simp [maxLen]) #[] rfl _ rfl
    have HB : Hid (Below w.heap.size w (w.alloc (.cells #[] 47))) := below1
    clear h hl hn
    have he : ∀ w, (binOp .eql 22 (.slice (some a) n cap) (.slice none 0 0)).run Try.prog w = .ok (.bool false) w := fun w => eq_nilNe (some a) n cap w
    go_enter Try.func32, Try.ntmps32
    go_wp2_with (at_builtin; refine wpList_append_B KneB _ rfl (.tmp 5) (.tmp 6) rfl w.heap.size _ [] rfl HO.out _ l rfl (slE_keep HB.out HS.out) (by have := HL.out; have := HN.out; simp [maxLen]; omega) (by have := HL.out; have := HN.out; simp; omega) (by simp) ?_; intro v2 w2 ho2 hg2)
    go_ret
    exact ⟨_, rfl, by simpa using ho2, HB.out.trans (hg2.own HO.out (by simp))⟩
theorem cloneNe (s : SlV) (l : List Nd) (w : World) (h : SlE Ene w (sv s) l) (hn : l.length * 56 ≤ 140737488355328) :
    Calls Try.prog 32 #[sv s] w (SlIsN l w) := by
  have hs := sv_lenN h
  obtain ⟨p, n, cl⟩ := s
  exact cloneNe_n p n cl l w h hs (by dsimp only at hs; omega)
theorem enters_cloneNe : ∀ args w, (callFunc 32 args).run Try.prog w = .ok (.enter 32 args) w := entersE Try.func32 (by kernel_rfl) (by kernel_rfl)
end Go.Proofs.Ytnehebipikhejaa
