/-
  Package box: helpers; isRoom, isRising, May, walked.
-/
import Derived.Test.YtiljgnhnpoackaaMl
import Derived.Test.YtiljgnhnpoackaaBoxP
namespace Go.Proofs.Ytiljgnhnpoackaa
open Go.RowKit

def itN (l : List Nt) (i : Nat) : Nt := l.getD i znt
theorem itN_in (l : List Nt) {i : Nat} (h : i < l.length) : itN l i = l[i] := by simp [itN, h]
def roomN (n : Int) : Bool := decide (0 ≤ n ∧ n ≤ 8)
theorem below1 {w : World} {o : Obj} : Below w.heap.size w (w.alloc o) := (Below.refl _ _).alloc (Nat.le_refl _) _
theorem blk_keep {w w' : World} {b : Nat} {o : Obj} (g : Below w.heap.size w w') (h : w.heap[b]? = some o) : w'.heap[b]? = some o := (g.block _ (Array.getElem?_eq_some_iff.1 h).1).trans h
/-- A note's version, and the note, in a slice. -/
theorem nts_ver {w : World} {b off : Nat} {l : List Nt} (h : w.rangeAt b off (cellsE Ent l)) {i : Nat} (hi : i < l.length) : w.cell? ⟨b, off + i * 66, none⟩ = some (.int .i64 (itN l i).ver) := by
  have := nt_rd_ver (range_at h hi)
  rwa [← itN_in l hi] at this
theorem nts_ld {w : World} {b off : Nat} {l : List Nt} (h : w.rangeAt b off (cellsE Ent l)) {i : Nat} (hi : i < l.length) : ldA w (.pointer (some ⟨b, off + i * 66, none⟩)) 66 = some (nt (itN l i)) := by
  have := ldA_at h hi
  rw [itN_in l hi]
  exact this.trans (by rw [show (Ent.enc l[i]).toArray = nt l[i] from Array.toList_inj.1 (by rw [nt_list]; rfl)])
/-- A box's cells in its block. -/
theorem bx_cells {w : World} {g : Nat} {x : Bx} (h : w.heap[g]? = some (.cells (bx x) 24 (0, 0))) : w.cell? ⟨g, 0, none⟩ = some (.int .i64 x.cap) ∧ w.cell? ⟨g, 1, none⟩ = some (sv x.l) ∧ w.cell? ⟨g, 2, none⟩ = some (.bool x.lag) ∧ w.cell? ⟨g, 3, none⟩ = some (.bool x.closed) ∧ ldA w (.pointer (some ⟨g, 0, none⟩)) 4 = some (bx x) ∧ g < w.heap.size :=
  ⟨bx_rd0_cap h, bx_rd0_l h, bx_rd0_lag h, bx_rd0_closed h, ldA_mk (bx_size x) (by simpa using range_block h), (Array.getElem?_eq_some_iff.1 h).1⟩

set_option maxRecDepth 100000 in
set_option maxHeartbeats 1000000 in
theorem isRoom_any (n : Int) (w : World) :
    Calls Try.prog 27 #[.int .i64 n] w fun e w' => e = .returned (.bool (roomN n)) ∧ w = w' := by
  by_cases h1 : 0 ≤ n
  · by_cases h2 : n ≤ 8
    · have e : roomN n = true := by simp [roomN, h1, h2]
      rw [e]
      clear e
      go_enter Try.func27, Try.ntmps27
      go_wp2_with fail
      go_ret
      exact ⟨rfl, rfl⟩
    · have e : roomN n = false := by simp [roomN, h1, h2]
      have h2' : decide (n ≤ 8) = false := by simpa using h2
      rw [e]
      clear e h2
      go_enter Try.func27, Try.ntmps27
      go_wp2_with fail
      go_ret
      exact ⟨rfl, rfl⟩
  · have e : roomN n = false := by simp [roomN, h1]
    have h1' : decide (0 ≤ n) = false := by simpa using h1
    rw [e]
    clear e h1
    go_enter Try.func27, Try.ntmps27
    go_wp2_with fail
    go_ret
    exact ⟨rfl, rfl⟩

set_option maxRecDepth 100000 in
set_option maxHeartbeats 1000000 in
theorem rising_n (p : Option Addr) (n cap : Nat) (l : List Nt) (w : World) (h : SlE Ent w (.slice p n cap) l) (hl : l.length = n) (hn : n ≤ 100) :
    Calls Try.prog 28 #[.slice p n cap] w fun e w' => e = .returned (.bool (risB Nt.ver l)) ∧ Below w.heap.size w w' := by
  have HS := Lib.hid h
  have HL := Lib.hid hl
  have HN := Lib.hid hn
  obtain ⟨r, hr⟩ : ∃ r, r = risB Nt.ver l := ⟨_, rfl⟩
  rw [← hr]
  have HR := Lib.hid hr
  clear h hl hn hr
  go_enter Try.func28, Try.ntmps28
  go_wp2_with fail
  go_loopw [3] (fun i wr => ∃ j : Nat, i = .int .i64 ((j : Int) + 1) ∧ (j = 0 ∨ j < n) ∧ (∀ x, x < j → (itN l x).ver < (itN l (x + 1)).ver) ∧ Below w.heap.size w wr) (fun i _ => n - (intOf i).toNat)
  case atStart => exact ⟨0, rfl, .inl rfl, fun x hx => absurd hx (Nat.not_lt_zero _), Below.refl _ _⟩
  case round =>
    obtain ⟨j, rfl, hj, hx, hb⟩ := hrel
    have HX := Lib.hid hx
    have HB := Lib.hid hb
    have HJ := Lib.hid hj
    clear hx hb hj
    by_cases hlt : j + 1 < n
    · have t0 : decide ((j : Int) + 1 < (n : Int)) = true := by rw [decide_eq_true_iff]; omega
      have i0 : (0 : Int) ≤ (j : Int) + 1 := by omega
      have i1 : (j : Int) + 1 < (n : Int) := by omega
      have i2 : (0 : Int) ≤ (j : Int) := by omega
      have i3 : (j : Int) < (n : Int) := by omega
      have u1 : (j : Int) + 1 + 1 < 10000 := by have := HN.out; omega
      obtain ⟨b1, o1, c1, e1, _, q1, x1⟩ := slE_ne HS.out (by have := HL.out; omega)
      injection e1 with e2 _ e3
      subst e2 e3
      have y1 : wr.cell? ⟨b1, o1 + j * 66, none⟩ = some (.int .i64 (itN l j).ver) := (HB.out.cell (p := ⟨b1, o1 + j * 66, none⟩) q1).trans (nts_ver x1 (by have := HL.out; omega))
      have y2 : wr.cell? ⟨b1, o1 + (j + 1) * 66, none⟩ = some (.int .i64 (itN l (j + 1)).ver) := (HB.out.cell (p := ⟨b1, o1 + (j + 1) * 66, none⟩) q1).trans (nts_ver x1 (by have := HL.out; omega))
      clear x1 q1
      by_cases he : (itN l j).ver < (itN l (j + 1)).ver
      · have HE := Lib.hid he
        have t1 : decide ((itN l (j + 1)).ver ≤ (itN l j).ver) = false := by rw [decide_eq_false_iff_not]; omega
        clear he
        go_wp2_with fail
        go_quiet (fail)
        go_wp2_with fail
        go_roundw
        case rel => exact ⟨j + 1, by go_num, .inr (by omega), fun x hx => by
          rcases Nat.lt_succ_iff_lt_or_eq.1 hx with h | rfl
          · exact HX.out x h
          · exact HE.out, belowD HB.out _⟩
        case measure => simp [intOf]; omega
      · have hR : Hid (r = false) := by
          show r = false
          rw [HR.out, ← Bool.not_eq_true, risB_iff]
          intro e
          have := e j (by have := HL.out; omega)
          rw [← itN_in, ← itN_in] at this
          exact he this
        have t1 : decide ((itN l (j + 1)).ver ≤ (itN l j).ver) = true := by rw [decide_eq_true_iff]; omega
        clear he
        go_wp2_with fail
        go_quiet (fail)
        go_wp2_with fail
        go_ret
        exact ⟨by rw [hR.out]; first | done | rfl, belowD HB.out _⟩
    · have t0 : decide ((j : Int) + 1 < (n : Int)) = false := by rw [decide_eq_false_iff_not]; omega
      have hR : Hid (r = true) := by
        show r = true
        rw [HR.out, risB_iff]
        intro i hi
        have := HX.out i (by have := HL.out; have := HJ.out; omega)
        rwa [itN_in l (by omega), itN_in l hi] at this
      go_wp2_with fail
      go_ret
      exact ⟨by rw [hR.out]; first | done | rfl, HB.out⟩
end Go.Proofs.Ytiljgnhnpoackaa
