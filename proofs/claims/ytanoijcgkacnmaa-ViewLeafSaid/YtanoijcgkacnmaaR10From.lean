/-
  The document's views: From, walked.
-/
import Derived.Test.YtanoijcgkacnmaaViewQ
import Derived.Test.YtanoijcgkacnmaaR06Above
import Derived.Test.YtanoijcgkacnmaaR06Find
namespace Go.Proofs.Ytanoijcgkacnmaa
open Go.RowKit

set_option maxRecDepth 100000 in
set_option maxHeartbeats 4000000 in
theorem ref10From_n (p : Option Addr) (n cp : Nat) (l : List Nd) (r : Rt) (fin : Int) (w : World) (h : SlE Ene w (.slice p n cp) l) (hl : l.length = n) (hn : l.length ≤ 1000) :
    Calls Try.prog 16 #[.agg (tr ⟨⟨p, n, cp⟩⟩), .agg (rc r), .int .i64 fin] w fun e w' => e = .returned (.int .i64 (fromT l r fin)) ∧ Below w.heap.size w w' := by
  have HMy := Lib.hid (fun W (g : SlE Ene W (.slice p n cp) l) => refMayT ⟨p, n, cp⟩ l W g hn)
  have HFd := Lib.hid (fun W (g : SlE Ene W (.slice p n cp) l) => refFind ⟨p, n, cp⟩ l r W g hn)
  have HAb := Lib.hid (fun W (g : SlE Ene W (.slice p n cp) l) => refAbove ⟨p, n, cp⟩ l fin (findT l r) W g hn)
  obtain ⟨W0, hW0⟩ : ∃ W0, W0 = (w.alloc (.cells (tr ⟨⟨p, n, cp⟩⟩) 24)).alloc (.cells (rc r) 27) := ⟨_, rfl⟩
  have A : Hid (Tw w W0 w.heap.size ⟨p, n, cp⟩ l) := by rw [hW0]; exact (tw_one h).keep below1
  have R0 : Hid (ldA W0 (.pointer (some ⟨w.heap.size + 1, 0, none⟩)) 32 = some (rc r)) := by
    rw [hW0]
    have := ldA_block (heap_alloc_last (w.alloc (.cells (tr ⟨⟨p, n, cp⟩⟩) 24)) (.cells (rc r) 27 (0, 0))) (rc_size r)
    show ldA _ _ _ = _
    simpa using this
  have HW := Lib.hid hW0
  have HL := Lib.hid hl
  obtain ⟨x, hx⟩ : ∃ x, x = fromT l r fin := ⟨_, rfl⟩
  rw [← hx]
  have HX := Lib.hid hx
  have HNo : Hid (isT l fin = false → x = -1) := fun e => by rw [HX.out]; unfold fromT; rw [if_neg (by rw [e]; exact Bool.false_ne_true)]
  clear hW0 h hl hn hx
  go_enter Try.func16, Try.ntmps16
  go_wp2_with fail
  rw [← HW.out]
  refine (HMy.out _ A.out.s).mono ?_
  rintro e w1 ⟨rfl, g⟩
  replace A := Lib.hid (A.out.keep g)
  replace R0 := Lib.hid (keep g R0.out)
  clear g
  have z1 := A.out.z1
  have z0 := A.out.z0
  rw [sv_mk] at z0
  have r0 := R0.out
  by_cases hm : MayT l
  case neg =>
    have hX : Hid (x = -1) := HNo.out (by rw [← Bool.not_eq_true, isT_iff]; exact fun h => hm h.1)
    rw [decide_eq_false hm]
    clear hm
    go_wp2_with fail
    go_ret
    exact ⟨by rw [hX.out]; first | done | rfl, A.out.g⟩
  rw [decide_eq_true hm]
  by_cases h0 : fin < 0
  · have d0 : decide (fin < 0) = true := decide_eq_true h0
    have hX : Hid (x = -1) := HNo.out (by rw [← Bool.not_eq_true, isT_iff]; exact fun h => by have := h.2.1; omega)
    clear hm h0
    go_wp2_with fail
    go_ret
    exact ⟨by rw [hX.out]; first | done | rfl, A.out.g⟩
  have d0 : decide (fin < 0) = false := decide_eq_false h0
  by_cases h1 : (n : Int) ≤ fin
  · have d1 : decide ((n : Int) ≤ fin) = true := decide_eq_true h1
    have hX : Hid (x = -1) := HNo.out (by rw [← Bool.not_eq_true, isT_iff]; exact fun h => by have := h.2.2; have := HL.out; omega)
    clear hm h0 h1
    go_wp2_with fail
    go_ret
    exact ⟨by rw [hX.out]; first | done | rfl, A.out.g⟩
  have d1 : decide ((n : Int) ≤ fin) = false := decide_eq_false h1
  have HY : Hid (x = if aboveZ l fin (findT l r) = true then findT l r else fin) := by show _ = _; rw [HX.out]; unfold fromT; rw [if_pos (isT_iff.2 ⟨hm, by omega, by have := HL.out; omega⟩)]
  clear hm h0 h1
  generalize aboveZ l fin (findT l r) = a at *
  generalize findT l r = k at *
  go_wp2_with fail
  refine (HFd.out _ A.out.s).mono ?_
  rintro e w2 ⟨rfl, g⟩
  replace A := Lib.hid (A.out.keep g)
  clear g z0 z1 r0
  have z1 := A.out.z1
  go_wp2_with fail
  refine (HAb.out _ A.out.s).mono ?_
  rintro e w3 ⟨rfl, g⟩
  replace A := Lib.hid (A.out.keep g)
  clear g z1
  cases a
  · have hX : Hid (x = fin) := HY.out
    go_wp2_with fail
    go_ret
    exact ⟨by rw [hX.out]; first | done | rfl, A.out.g⟩
  · have hX : Hid (x = k) := HY.out
    go_wp2_with fail
    go_ret
    exact ⟨by rw [hX.out]; first | done | rfl, A.out.g⟩
/-- From. -/
theorem ref10From (s : SlV) (l : List Nd) (r : Rt) (fin : Int) (w : World) (h : SlE Ene w (sv s) l) (hn : l.length ≤ 1000) :
    Calls Try.prog 16 #[.agg (tr ⟨s⟩), .agg (rc r), .int .i64 fin] w fun e w' => e = .returned (.int .i64 (fromT l r fin)) ∧ Below w.heap.size w w' := by
  have hl := sv_lenN h
  obtain ⟨p, n, cp⟩ := s
  exact ref10From_n p n cp l r fin w h hl hn
theorem enters_ref10From : ∀ args w, (callFunc 16 args).run Try.prog w = .ok (.enter 16 args) w := entersE Try.func16 (by kernel_rfl) (by kernel_rfl)
end Go.Proofs.Ytanoijcgkacnmaa
