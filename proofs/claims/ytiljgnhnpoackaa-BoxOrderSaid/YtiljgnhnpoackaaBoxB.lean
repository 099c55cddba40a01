/-
  Package box: May, New; the document's New, walked.
-/
import Derived.Test.YtiljgnhnpoackaaBoxA
import Derived.Test.YtiljgnhnpoackaaRes
namespace Go.Proofs.Ytiljgnhnpoackaa
open Go.RowKit

/-- A box's value and its notes, plainly. -/
def bp (b : Bx) (l : List Nt) : BoxP Nt := ⟨b.cap, l, b.lag, b.closed⟩
theorem rising_any (s : SlV) (l : List Nt) (w : World) (h : SlE Ent w (sv s) l) (hn : l.length ≤ 100) :
    Calls Try.prog 28 #[sv s] w fun e w' => e = .returned (.bool (risB Nt.ver l)) ∧ Below w.heap.size w w' := by
  obtain ⟨p, n, cap⟩ := s
  obtain ⟨p', cap', e, _⟩ := slE_shape h
  have e' : n = l.length := by unfold sv at e; injection e
  exact rising_n p n cap l w h e'.symm (by omega)
theorem sv_len {w : World} {s : SlV} {l : List Nt} (h : SlE Ent w (sv s) l) : l.length = s.len := by
  obtain ⟨p', cap', e, _⟩ := slE_shape h
  unfold sv at e; injection e with _ e; exact e.symm

set_option maxRecDepth 100000 in
set_option maxHeartbeats 1000000 in
theorem may_any (b : Bx) (l : List Nt) (w : World) (h : SlE Ent w (sv b.l) l) :
    Calls Try.prog 20 #[.agg (bx b)] w fun e w' => e = .returned (.bool (mayX Nt.ver (bp b l))) ∧ Below w.heap.size w w' := by
  have hl := sv_len h
  have HB : Hid (Below w.heap.size w (w.alloc (.cells (bx b) 24))) := below1
  have HC := Lib.hid (fun W => isRoom_any b.cap W)
  have HR := Lib.hid (fun W (g : Below w.heap.size w W) (hn : l.length ≤ 100) => rising_any b.l l W (slE_keep g h) hn)
  obtain ⟨r, hr⟩ : ∃ r, r = mayX Nt.ver (bp b l) := ⟨_, rfl⟩
  rw [← hr]
  have hr' : r = (roomN b.cap && (decide ((b.l.len : Int) ≤ b.cap) && risB Nt.ver l)) := by
    rw [hr, ← hl]
    unfold mayX roomN bp
    rw [← Bool.and_assoc]
    congr 1
    rw [Bool.eq_iff_iff, Bool.and_eq_true, decide_eq_true_iff, decide_eq_true_iff, decide_eq_true_iff]
    exact ⟨fun ⟨a, b, c⟩ => ⟨⟨a, b⟩, c⟩, fun ⟨⟨a, b⟩, c⟩ => ⟨a, b, c⟩⟩
  have HE := Lib.hid hr'
  have HL := Lib.hid hl
  clear hr hr' hl h
  obtain ⟨cap, ⟨p, n, cp⟩, lag, closed⟩ := b
  obtain ⟨a, ha⟩ : ∃ a, a = roomN cap := ⟨_, rfl⟩
  dsimp only at HE HL HC HB HR
  rw [← ha] at HE HC
  have HA := Lib.hid ha
  clear ha
  cases a with
  | false =>
    go_enter Try.func20, Try.ntmps20
    go_wp2_with fail
    refine (HC.out _).mono ?_
    rintro e w1 ⟨rfl, rfl⟩
    go_wp2_with fail
    go_ret
    exact ⟨by rw [HE.out]; first | done | rfl, HB.out⟩
  | true =>
    by_cases hc : (n : Int) ≤ cap
    · have hc' : decide ((n : Int) ≤ cap) = true := decide_eq_true hc
      have HE' := Lib.hid (show r = risB Nt.ver l by rw [HE.out, hc']; rfl)
      have hn : l.length ≤ 100 := by
        have := HA.out
        unfold roomN at this
        have := of_decide_eq_true this.symm
        have := HL.out
        omega
      have HN := Lib.hid hn
      clear hc hn
      go_enter Try.func20, Try.ntmps20
      go_wp2_with fail
      refine (HC.out _).mono ?_
      rintro e w1 ⟨rfl, rfl⟩
      go_wp2_with fail
      refine (HR.out _ HB.out HN.out).mono ?_
      rintro e w1 ⟨rfl, g1⟩
      have G1 := Lib.hid g1
      clear g1
      go_wp2_with fail
      go_ret
      exact ⟨by rw [HE'.out]; first | done | rfl, belowT HB.out G1.out⟩
    · have hc' : decide ((n : Int) ≤ cap) = false := decide_eq_false hc
      have HE' := Lib.hid (show r = false by rw [HE.out, hc']; rfl)
      clear hc
      go_enter Try.func20, Try.ntmps20
      go_wp2_with fail
      refine (HC.out _).mono ?_
      rintro e w1 ⟨rfl, rfl⟩
      go_wp2_with fail
      go_ret
      exact ⟨by rw [HE'.out]; first | done | rfl, HB.out⟩

/-- A box of that room, of nothing else. -/
def newB (n : Int) : Bx := ⟨if roomN n = true then n else 0, ⟨none, 0, 0⟩, false, false⟩
set_option maxRecDepth 100000 in
set_option maxHeartbeats 1000000 in
theorem new_any (n : Int) (w : World) : Calls Try.prog 17 #[.int .i64 n] w fun e w' => e = .returned (.tuple #[.agg (bx (newB n)), .bool (roomN n)]) ∧ Below w.heap.size w w' := by
  have c1 := fun W => isRoom_any n W
  unfold newB
  cases hr : roomN n with
  | true =>
    rw [hr] at c1
    rw [if_pos rfl]
    have HC := Lib.hid c1
    clear c1 hr
    go_enter Try.func17, Try.ntmps17
    go_wp2_with fail
    refine (HC.out _).mono ?_
    rintro e w1 ⟨rfl, rfl⟩
    go_wp2_with fail
    exact bodyPost_ret (v := .tuple #[.agg (bx ⟨n, ⟨none, 0, 0⟩, false, false⟩), .bool true]) (results_agg2 Try.isAgg24 Try.sizeOf24 _ 2 3 rfl _ _ _ _ _ rfl rfl (ldA_alloc_new _ _ _ _ _ rfl (bx_size _))) rfl ⟨rfl, below1⟩
  | false =>
    rw [hr] at c1
    rw [if_neg (by simp)]
    have HC := Lib.hid c1
    clear c1 hr
    go_enter Try.func17, Try.ntmps17
    go_wp2_with fail
    refine (HC.out _).mono ?_
    rintro e w1 ⟨rfl, rfl⟩
    go_wp2_with fail
    exact bodyPost_ret (v := .tuple #[.agg (bx ⟨0, ⟨none, 0, 0⟩, false, false⟩), .bool false]) (results_agg2 Try.isAgg24 Try.sizeOf24 _ 2 3 rfl _ _ _ _ _ rfl rfl (ldA_alloc_new _ _ _ _ _ rfl (bx_size _))) rfl ⟨rfl, below1⟩

set_option maxRecDepth 100000 in
set_option maxHeartbeats 1000000 in
theorem refNew_any (n : Int) (w : World) : Calls Try.prog 18 #[.int .i64 n] w fun e w' => e = .returned (.tuple #[.agg (bx (newB n)), .bool (roomN n)]) ∧ Below w.heap.size w w' := by
  unfold newB
  by_cases h1 : 0 ≤ n
  · by_cases h2 : n ≤ 8
    · have e : roomN n = true := by simp [roomN, h1, h2]
      rw [e, if_pos rfl]
      clear e
      go_enter Try.func18, Try.ntmps18
      go_wp2_with fail
      exact bodyPost_ret (v := .tuple #[.agg (bx ⟨n, ⟨none, 0, 0⟩, false, false⟩), .bool true]) (results_agg2 Try.isAgg24 Try.sizeOf24 _ 2 3 rfl _ _ _ _ _ rfl rfl (ldA_alloc_new _ _ _ _ _ rfl (bx_size _))) rfl ⟨rfl, below1⟩
    · have e : roomN n = false := by simp [roomN, h1, h2]
      have h2' : 8 < n := by omega
      rw [e, if_neg (by simp)]
      clear e h2
      go_enter Try.func18, Try.ntmps18
      go_wp2_with fail
      exact bodyPost_ret (v := .tuple #[.agg (bx ⟨0, ⟨none, 0, 0⟩, false, false⟩), .bool false]) (results_agg2 Try.isAgg24 Try.sizeOf24 _ 2 3 rfl _ _ _ _ _ rfl rfl (ldA_alloc_new _ _ _ _ _ rfl (bx_size _))) rfl ⟨rfl, below1⟩
  · have e : roomN n = false := by simp [roomN, h1]
    have h1' : n < 0 := by omega
    rw [e, if_neg (by simp)]
    clear e h1
    go_enter Try.func18, Try.ntmps18
    go_wp2_with fail
    exact bodyPost_ret (v := .tuple #[.agg (bx ⟨0, ⟨none, 0, 0⟩, false, false⟩), .bool false]) (results_agg2 Try.isAgg24 Try.sizeOf24 _ 2 3 rfl _ _ _ _ _ rfl rfl (ldA_alloc_new _ _ _ _ _ rfl (bx_size _))) rfl ⟨rfl, below1⟩
end Go.Proofs.Ytiljgnhnpoackaa
