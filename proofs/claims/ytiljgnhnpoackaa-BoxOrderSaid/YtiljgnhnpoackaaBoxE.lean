/-
  Package box: isNewer, post, take, shut, walked.
-/
import Derived.Test.YtiljgnhnpoackaaBoxD
namespace Go.Proofs.Ytiljgnhnpoackaa
open Go.RowKit

theorem cutFE_own {n len cap : Nat} {p : Option Addr} {lo vr : Value} (h : cutFE n (.slice p len cap) lo = some vr) {b : Nat} (hb : vr.ownBlock = some b) : (Value.slice p len cap).ownBlock = some b := by
  unfold cutFE at h
  split at h
  · rename_i l c k y x e1
    injection e1 with ha hl hc
    subst ha hl hc
    split at h
    · have e := Option.some.inj h
      subst e
      cases p with
      | none => unfold sliced at hb; split at hb <;> exact hb
      | some a =>
        have : (sliced (some a) x.toNat len cap n).ownBlock = some a.block := by
          unfold sliced
          split <;> simp [Value.ownBlock, Addr.add] <;> (split <;> rfl)
        rw [this] at hb
        exact hb
    · cases h
  · cases h
/-- A mail's cells in its block. -/
theorem ml_cells {w : World} {g : Nat} {x : Ml} (h : w.heap[g]? = some (.cells (ml x) 47 (0, 0))) : w.cell? ⟨g, 0, none⟩ = some (.int .i64 x.box.cap) ∧ w.cell? ⟨g, 1, none⟩ = some (sv x.box.l) ∧ w.cell? ⟨g, 2, none⟩ = some (.bool x.box.lag) ∧ w.cell? ⟨g, 3, none⟩ = some (.bool x.box.closed) ∧ w.cell? ⟨g, 4, none⟩ = some (.int .i64 x.note.ver) ∧ ldA w (.pointer (some ⟨g, 0, none⟩)) 4 = some (bx x.box) ∧ ldA w (.pointer (some ⟨g, 4, none⟩)) 66 = some (nt x.note) ∧ ldA w (.pointer (some ⟨g, 0, none⟩)) 70 = some (ml x) ∧ wrA w (.pointer (some ⟨g, 0, none⟩)) 70 = true ∧ g < w.heap.size :=
  ⟨ml_rd0_box_cap h, ml_rd0_box_l h, ml_rd0_box_lag h, ml_rd0_box_closed h, ml_rd0_note_ver h, ml_rd0_box h, ml_rd0_note h, ldA_block h (ml_size x), wrA_block h (ml_size x), (Array.getElem?_eq_some_iff.1 h).1⟩

set_option maxRecDepth 100000 in
set_option maxHeartbeats 1000000 in
theorem newer_0 (cap : Int) (p : Option Addr) (cp : Nat) (lag closed : Bool) (x : Nt) (w : World) :
    Calls Try.prog 31 #[.agg (ml ⟨⟨cap, ⟨p, 0, cp⟩, lag, closed⟩, x⟩)] w fun e w' => e = .returned (.bool true) ∧ Below w.heap.size w w' := by
  go_enter Try.func31, Try.ntmps31
  go_wp2_with fail
  go_quiet (fail)
  go_wp2_with fail
  go_ret
  exact ⟨rfl, belowD below1 _⟩

set_option maxRecDepth 100000 in
set_option maxHeartbeats 1000000 in
theorem newer_s (cap : Int) (b1 o1 k cp : Nat) (lag closed : Bool) (x : Nt) (v : Int) (w : World) (h1 : b1 < w.heap.size) (h2 : w.cell? ⟨b1, o1 + k * 66, none⟩ = some (.int .i64 v)) (hk : k ≤ 1000) :
    Calls Try.prog 31 #[.agg (ml ⟨⟨cap, ⟨some ⟨b1, o1, none⟩, k + 1, cp⟩, lag, closed⟩, x⟩)] w fun e w' => e = .returned (.bool (!decide (x.ver ≤ v))) ∧ Below w.heap.size w w' := by
  have HB : Hid (Below w.heap.size w (w.alloc (.cells (ml ⟨⟨cap, ⟨some ⟨b1, o1, none⟩, k + 1, cp⟩, lag, closed⟩, x⟩) 47))) := below1
  obtain ⟨r, hr⟩ : ∃ r, r = !decide (x.ver ≤ v) := ⟨_, rfl⟩
  rw [← hr]
  have t1 : decide (v < x.ver) = r := by
    rw [hr, ← decide_not, Bool.eq_iff_iff, decide_eq_true_iff, decide_eq_true_iff]; omega
  have t2 : ((k : Int) + 1 == 0) = false := by simp; omega
  have i0 : (0 : Int) ≤ (k : Int) := by omega
  have i1 : (k : Int) < (k : Int) + 1 := by omega
  have u1 : (k : Int) + 1 < 10000 := by omega
  clear hr hk
  go_enter Try.func31, Try.ntmps31
  go_wp2_with fail
  go_quiet (fail)
  go_wp2_with fail
  go_ret
  exact ⟨rfl, belowD HB.out _⟩
theorem newer_any (m : Ml) (l : List Nt) (w : World) (h : SlE Ent w (sv m.box.l) l) (hn : l.length ≤ 1000) :
    Calls Try.prog 31 #[.agg (ml m)] w fun e w' => e = .returned (.bool (!lastB Nt.ver l m.note.ver)) ∧ Below w.heap.size w w' := by
  have hl := sv_len h
  obtain ⟨⟨cap, ⟨p, n, cp⟩, lag, closed⟩, x⟩ := m
  dsimp only at hl h ⊢
  unfold lastB
  cases n with
  | zero =>
    rw [dif_neg (by omega)]
    exact newer_0 cap p cp lag closed x w
  | succ k =>
    rw [dif_pos (by omega)]
    obtain ⟨b1, o1, c1, e1, _, q1, x1⟩ := slE_ne h (by omega)
    unfold sv at e1
    injection e1 with e2 _ e3
    subst e2 e3
    have y := nts_ver x1 (i := k) (by omega)
    rw [itN_in l (by omega)] at y
    have e : l[l.length - 1]'(by omega) = l[k]'(by omega) := by congr 1; omega
    rw [e]
    exact newer_s cap b1 o1 k _ lag closed x _ w q1 y (by omega)
theorem enters_newer : ∀ args w, (callFunc 31 args).run Try.prog w = .ok (.enter 31 args) w := entersE Try.func31 (by kernel_rfl) (by kernel_rfl)

/-- What a deed answers. -/
def MailIs (B : BoxP Nt) (N : Nt) (ok : Bool) (base : Nat) (w : World) (e : Ending) (w' : World) : Prop := ∃ (m : Ml) (l : List Nt), e = .returned (.tuple #[.agg (ml m), .bool ok]) ∧ bp m.box l = B ∧ m.note = N ∧ SlE Ent w' (sv m.box.l) l ∧ (∀ b, (sv m.box.l).ownBlock = some b → base ≤ b) ∧ Below base w w'

set_option maxRecDepth 100000 in
set_option maxHeartbeats 1000000 in
theorem shut_any (m : Ml) (l : List Nt) (base : Nat) (w : World) (h : SlE Ent w (sv m.box.l) l) (hf : ∀ b, (sv m.box.l).ownBlock = some b → base ≤ b) (hb : base ≤ w.heap.size) :
    Calls Try.prog 26 #[.agg (ml m)] w (MailIs { bp m.box l with closed := true } m.note (!m.box.closed) base w) := by
  have HO := Lib.hid h
  have HF := Lib.hid hf
  have HB0 := Lib.hid hb
  obtain ⟨W0, hW0⟩ : ∃ W0, W0 = (w.alloc (.cells (ml m) 47)).alloc (.cells (ml zml) 47) := ⟨_, rfl⟩
  have HB : Hid (Below w.heap.size w W0) := by rw [hW0]; exact belowT below1 below1
  have M0 : Hid (W0.heap[w.heap.size]? = some (.cells (ml m) 47 (0, 0))) := by rw [hW0]; exact heap_alloc2_old w _ _
  have N0 : Hid (W0.heap[w.heap.size + 1]? = some (.cells (ml zml) 47 (0, 0))) := by rw [hW0]; exact heap_alloc2_new w _ _
  have HW := Lib.hid hW0
  clear h hf hb hW0
  obtain ⟨⟨cap, s, lag, closed⟩, x⟩ := m
  cases closed with
  | true =>
    go_enter Try.func26, Try.ntmps26
    go_wp2_with fail
    exact bodyPost_ret (results_agg2 Try.isAgg47 Try.sizeOf47 _ 2 3 rfl _ _ _ _ _ rfl rfl (ldA_alloc_new _ _ _ _ _ (by simp) (ml_size _))) rfl ⟨_, l, rfl, rfl, rfl, slE_keep (belowT below1 below1) HO.out, HF.out, (belowT below1 below1).mono HB0.out⟩
  | false =>
    go_enter Try.func26, Try.ntmps26
    go_wp2_with fail
    exact bodyPost_ret (results_agg2 Try.isAgg47 Try.sizeOf47 _ 2 3 rfl _ _ _ _ _ rfl rfl (ldA_alloc_new _ _ _ _ _ (by simp) (ml_size _))) rfl ⟨_, l, rfl, rfl, rfl, slE_keep (belowT below1 below1) HO.out, HF.out, (belowT below1 below1).mono HB0.out⟩

set_option maxRecDepth 100000 in
set_option maxHeartbeats 1000000 in
theorem take_0 (cap : Int) (p : Option Addr) (cp : Nat) (lag closed : Bool) (x : Nt) (base : Nat) (w : World) (hf : ∀ b, (sv ⟨p, 0, cp⟩).ownBlock = some b → base ≤ b) (hb : base ≤ w.heap.size) :
    Calls Try.prog 25 #[.agg (ml ⟨⟨cap, ⟨p, 0, cp⟩, lag, closed⟩, x⟩)] w (MailIs ⟨cap, [], lag, closed⟩ x false base w) := by
  have HB0 := Lib.hid hb
  have HF := Lib.hid hf
  clear hb hf
  go_enter Try.func25, Try.ntmps25
  go_wp2_with fail
  exact bodyPost_ret (results_agg2 Try.isAgg47 Try.sizeOf47 _ 2 3 rfl _ _ _ _ _ rfl rfl (ldA_alloc_new _ _ _ _ _ (by simp) (ml_size _))) rfl ⟨_, [], rfl, rfl, rfl, slE_nil _ _ _ _, HF.out, (belowT below1 below1).mono HB0.out⟩

set_option maxRecDepth 100000 in
set_option maxHeartbeats 1000000 in
theorem take_s (cap : Int) (b1 o1 k cp : Nat) (lag closed : Bool) (x y : Nt) (l : List Nt) (base : Nat) (w : World) (hf : base ≤ b1) (hb : base ≤ w.heap.size) (h : SlE Ent w (.slice (some ⟨b1, o1, none⟩) (k + 1) cp) (y :: l)) (hl : l.length = k) :
    Calls Try.prog 25 #[.agg (ml ⟨⟨cap, ⟨some ⟨b1, o1, none⟩, k + 1, cp⟩, lag, closed⟩, x⟩)] w (MailIs ⟨cap, l, lag, closed⟩ y true base w) := by
  have HB0 := Lib.hid hb
  obtain ⟨b', o', c', e1, hc, q1, x1⟩ := slE_ne h (by simp)
  injection e1 with e2 e6 e3
  clear e6
  injection e2 with e2
  injection e2 with e4 e5
  subst e3 e4 e5
  have y1 := nts_ld x1 (i := 0) (by simp)
  rw [Nat.zero_mul, Nat.add_zero, show itN (y :: l) 0 = y from rfl] at y1
  obtain ⟨vr, hcut, hS⟩ := cut_fromE (E := Ent) (some ⟨b1, o1, none⟩) cp (y :: l) 1 (by simp) hc
  have hS' := hS w (by rw [List.length_cons, hl]; exact h)
  rw [List.length_cons, hl] at hcut
  rw [List.drop_succ_cons, List.drop_zero] at hS'
  obtain ⟨p', cap', e', _⟩ := slE_shape hS'
  rw [hl] at e'
  subst e'
  have hcut' : cutFE 66 (.slice (some ⟨b1, o1, none⟩) (k + 1) cp) (.int .i64 1) = some (.slice p' k cap') := hcut
  have HF : Hid (∀ b, (sv ⟨p', k, cap'⟩).ownBlock = some b → base ≤ b) := by
    intro b hb'
    have e := cutFE_own hcut hb'
    exact Nat.le_trans hf (Nat.le_of_eq (Option.some.inj e))
  have HS := Lib.hid hS'
  have t2 : ((k : Int) + 1 == 0) = false := by simp; omega
  have i1 : (0 : Int) < (k : Int) + 1 := by omega
  clear hf hb h hl x1 hc hcut hS hS'
  go_enter Try.func25, Try.ntmps25
  go_wp2_with fail
  go_region
  all_goals
    go_wp2_with fail
    exact bodyPost_ret (results_agg2 Try.isAgg47 Try.sizeOf47 _ 2 3 rfl _ _ _ _ _ rfl rfl (ldA_alloc_new _ _ _ _ _ (by simp) (ml_size _))) rfl ⟨_, l, rfl, rfl, rfl, slE_keep (belowD (belowT below1 below1) 1) HS.out, HF.out, (belowD (belowT below1 below1) 1).mono HB0.out⟩
end Go.Proofs.Ytiljgnhnpoackaa
