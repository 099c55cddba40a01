/-
  Boxes held against one another: Same, the document's Same; the document's May, walked.
-/
import Derived.Test.YtiljgnhnpoackaaBoxC
namespace Go.Proofs.Ytiljgnhnpoackaa
open Go.RowKit

def sameB (x y : BoxP Nt) : Bool := decide (x.cap = y.cap) && (decide (x.lag = y.lag) && (decide (x.closed = y.closed) && decide (x.l = y.l)))
theorem sameB_iff {x y : BoxP Nt} : sameB x y = true ↔ x = y := by
  unfold sameB
  simp only [Bool.and_eq_true, decide_eq_true_iff]
  exact ⟨fun h => BoxP.ext h.1 h.2.2.2 h.2.1 h.2.2.1, fun h => by subst h; exact ⟨rfl, rfl, rfl, rfl⟩⟩
theorem sameB_refl (x : BoxP Nt) : sameB x x = true := sameB_iff.2 rfl

set_option maxRecDepth 100000 in
set_option maxHeartbeats 1000000 in
theorem same_any (a b : Bx) (l k : List Nt) (w : World) (h : SlE Ent w (sv a.l) l) (h' : SlE Ent w (sv b.l) k) (hn : l.length ≤ 1000) :
    Calls Try.prog 21 #[.agg (bx a), .agg (bx b)] w fun e w' => e = .returned (.bool (sameB (bp a l) (bp b k))) ∧ Below w.heap.size w w' := by
  have HC := Lib.hid (fun W (g : Below w.heap.size w W) => equal_any a.l b.l l k W (slE_keep g h) (slE_keep g h') hn)
  have HB : Hid (Below w.heap.size w ((w.alloc (.cells (bx a) 24)).alloc (.cells (bx b) 24))) := belowT below1 below1
  obtain ⟨r, hr⟩ : ∃ r, r = sameB (bp a l) (bp b k) := ⟨_, rfl⟩
  rw [← hr]
  unfold sameB bp at hr
  have HR := Lib.hid hr
  clear h h' hn hr
  obtain ⟨cap, ⟨p, n, cp⟩, lag, closed⟩ := a
  obtain ⟨cap', ⟨q, m, cq⟩, lag', closed'⟩ := b
  dsimp only at HR HC
  obtain ⟨eq, he⟩ : ∃ eq, eq = decide (l = k) := ⟨_, rfl⟩
  rw [← he] at HR HC
  clear he
  by_cases h1 : cap = cap'
  · subst h1
    by_cases h2 : lag = lag'
    · subst h2
      by_cases h3 : closed = closed'
      · subst h3
        have HR' := Lib.hid (show r = eq by have := HR.out; simpa using this)
        go_enter Try.func21, Try.ntmps21
        go_wp2_with fail
        refine (HC.out _ HB.out).mono ?_
        rintro e w1 ⟨rfl, g1⟩
        have G1 := Lib.hid g1
        clear g1
        go_wp2_with fail
        go_ret
        exact ⟨by rw [HR'.out]; first | done | rfl, belowT HB.out G1.out⟩
      · have t3 : (closed == closed') = false := by simpa using h3
        have HR' := Lib.hid (show r = false by rw [HR.out]; simp [h3])
        clear h3
        go_enter Try.func21, Try.ntmps21
        go_wp2_with fail
        go_ret
        exact ⟨by rw [HR'.out]; first | done | rfl, HB.out⟩
    · have t2 : (lag == lag') = false := by simpa using h2
      have HR' := Lib.hid (show r = false by rw [HR.out]; simp [h2])
      clear h2
      go_enter Try.func21, Try.ntmps21
      go_wp2_with fail
      go_ret
      exact ⟨by rw [HR'.out]; first | done | rfl, HB.out⟩
  · have t1 : (cap == cap') = false := by simpa using h1
    have HR' := Lib.hid (show r = false by rw [HR.out]; simp [h1])
    clear h1
    go_enter Try.func21, Try.ntmps21
    go_wp2_with fail
    go_ret
    exact ⟨by rw [HR'.out]; first | done | rfl, HB.out⟩

set_option maxRecDepth 100000 in
set_option maxHeartbeats 1000000 in
theorem refSame_any (a b : Bx) (l k : List Nt) (w : World) (h : SlE Ent w (sv a.l) l) (h' : SlE Ent w (sv b.l) k) (hn : l.length ≤ 1000) :
    Calls Try.prog 10 #[.agg (bx a), .agg (bx b)] w fun e w' => e = .returned (.bool (sameB (bp a l) (bp b k))) ∧ Below w.heap.size w w' := by
  have HC := Lib.hid (fun W (g : Below w.heap.size w W) => notes_any a.l b.l l k W (slE_keep g h) (slE_keep g h') hn)
  obtain ⟨r, hr⟩ : ∃ r, r = sameB (bp a l) (bp b k) := ⟨_, rfl⟩
  rw [← hr]
  unfold sameB bp at hr
  have HR := Lib.hid hr
  obtain ⟨W0, hW0⟩ : ∃ W0, W0 = (w.alloc (.cells (bx a) 24)).alloc (.cells (bx b) 24) := ⟨_, rfl⟩
  have HB : Hid (Below w.heap.size w W0) := by rw [hW0]; exact belowT below1 below1
  have M0 : Hid (W0.heap[w.heap.size]? = some (.cells (bx a) 24 (0, 0))) := by rw [hW0]; exact heap_alloc2_old w _ _
  have N0 : Hid (W0.heap[w.heap.size + 1]? = some (.cells (bx b) 24 (0, 0))) := by rw [hW0]; exact heap_alloc2_new w _ _
  have HW := Lib.hid hW0
  clear hW0
  clear h h' hn hr
  obtain ⟨cap, ⟨p, n, cp⟩, lag, closed⟩ := a
  obtain ⟨cap', ⟨q, m, cq⟩, lag', closed'⟩ := b
  dsimp only at HR HC
  obtain ⟨eq, he⟩ : ∃ eq, eq = decide (l = k) := ⟨_, rfl⟩
  rw [← he] at HR HC
  clear he
  go_enter Try.func10, Try.ntmps10
  go_wp2_with fail
  rw [← HW.out]
  refine (HC.out _ HB.out).mono ?_
  rintro e w1 ⟨rfl, g1⟩
  obtain ⟨x0, _, x2, x3, _, xl⟩ := bx_cells (blk_keep g1 M0.out)
  obtain ⟨y0, _, y2, y3, _, yl⟩ := bx_cells (blk_keep g1 N0.out)
  dsimp only at x0 x2 x3 y0 y2 y3
  have HG := Lib.hid (belowT HB.out g1)
  clear g1
  cases eq with
  | false =>
    have HR' := Lib.hid (show r = false by rw [HR.out]; simp)
    go_wp2_with fail
    go_ret
    exact ⟨by rw [HR'.out]; first | done | rfl, HG.out⟩
  | true =>
  by_cases h1 : cap = cap'
  · subst h1
    by_cases h2 : lag = lag'
    · subst h2
      by_cases h3 : closed = closed'
      · subst h3
        have HR' := Lib.hid (show r = true by rw [HR.out]; simp)
        go_wp2_with fail
        go_ret
        exact ⟨by rw [HR'.out]; first | done | rfl, HG.out⟩
      · have t3 : (closed == closed') = false := by simpa using h3
        have HR' := Lib.hid (show r = false by rw [HR.out]; simp [h3])
        clear h3
        go_wp2_with fail
        go_ret
        exact ⟨by rw [HR'.out]; first | done | rfl, HG.out⟩
    · have t2 : (lag == lag') = false := by simpa using h2
      have HR' := Lib.hid (show r = false by rw [HR.out]; simp [h2])
      clear h2
      go_wp2_with fail
      go_ret
      exact ⟨by rw [HR'.out]; first | done | rfl, HG.out⟩
  · have t1 : (cap == cap') = false := by simpa using h1
    have HR' := Lib.hid (show r = false by rw [HR.out]; simp [h1])
    clear h1
    go_wp2_with fail
    go_ret
    exact ⟨by rw [HR'.out]; first | done | rfl, HG.out⟩

set_option maxRecDepth 100000 in
set_option maxHeartbeats 1000000 in
theorem refMay_n (cap : Int) (p : Option Addr) (n cp : Nat) (lag closed : Bool) (l : List Nt) (w : World) (h : SlE Ent w (.slice p n cp) l) (hl : l.length = n) (hn : n ≤ 1000) :
    Calls Try.prog 19 #[.agg (bx ⟨cap, ⟨p, n, cp⟩, lag, closed⟩)] w fun e w' => e = .returned (.bool (mayX Nt.ver (bp ⟨cap, ⟨p, n, cp⟩, lag, closed⟩ l))) ∧ Below w.heap.size w w' := by
  have HL := Lib.hid hl
  have HN := Lib.hid hn
  obtain ⟨r, hr⟩ : ∃ r, r = mayX Nt.ver (bp ⟨cap, ⟨p, n, cp⟩, lag, closed⟩ l) := ⟨_, rfl⟩
  rw [← hr]
  unfold mayX bp at hr
  rw [hl] at hr
  have HR := Lib.hid hr
  obtain ⟨W0, hW0⟩ : ∃ W0, W0 = w.alloc (.cells (bx ⟨cap, ⟨p, n, cp⟩, lag, closed⟩) 24) := ⟨_, rfl⟩
  have HB : Hid (Below w.heap.size w W0) := by rw [hW0]; exact below1
  have M0 : Hid (W0.heap[w.heap.size]? = some (.cells (bx ⟨cap, ⟨p, n, cp⟩, lag, closed⟩) 24 (0, 0))) := by rw [hW0]; exact heap_alloc_last w _
  have HS := Lib.hid (slE_keep HB.out h)
  have HW := Lib.hid hW0
  clear hW0 h hl hn hr
  go_enter Try.func19, Try.ntmps19
  go_wp2_with fail
  rw [← HW.out]
  go_loopw [3] (fun i wr => ∃ j : Nat, i = .int .i64 ((j : Int) + 1) ∧ (j = 0 ∨ j < n) ∧ (∀ x, x < j → (itN l x).ver < (itN l (x + 1)).ver) ∧ Below W0.heap.size W0 wr) (fun i _ => n - (intOf i).toNat)
  case atStart => exact ⟨0, rfl, .inl rfl, fun x hx => absurd hx (Nat.not_lt_zero _), Below.refl _ _⟩
  case round =>
    obtain ⟨j, rfl, hj, hx, hb⟩ := hrel
    have HX := Lib.hid hx
    have HBB := Lib.hid hb
    have HJ := Lib.hid hj
    obtain ⟨z0, z1, _, _, _, zl⟩ := bx_cells (blk_keep hb M0.out)
    dsimp only at z0 z1
    rw [sv_mk] at z1
    clear hx hb hj
    by_cases hlt : j + 1 < n
    · have t0 : decide ((j : Int) + 1 < (n : Int)) = true := by rw [decide_eq_true_iff]; omega
      have i0 : (0 : Int) ≤ (j : Int) + 1 := by omega
      have i1 : (j : Int) + 1 < (n : Int) := by omega
      have i2 : (0 : Int) ≤ (j : Int) := by omega
      have i3 : (j : Int) < (n : Int) := by omega
      have u1 : (j : Int) + 1 + 1 < 10000 := by have := HN.out; omega
      obtain ⟨b1, o1, c1, e1, _, q1, x1⟩ := slE_ne HS.out (by have := HL.out; omega)
      injection e1 with e2 e4 e3
      clear e4
      subst e2 e3
      have y1 : wr.cell? ⟨b1, o1 + j * 66, none⟩ = some (.int .i64 (itN l j).ver) := (HBB.out.cell (p := ⟨b1, o1 + j * 66, none⟩) q1).trans (nts_ver x1 (by have := HL.out; omega))
      have y2 : wr.cell? ⟨b1, o1 + (j + 1) * 66, none⟩ = some (.int .i64 (itN l (j + 1)).ver) := (HBB.out.cell (p := ⟨b1, o1 + (j + 1) * 66, none⟩) q1).trans (nts_ver x1 (by have := HL.out; omega))
      clear x1 q1
      by_cases he : (itN l j).ver < (itN l (j + 1)).ver
      · have HE := Lib.hid he
        have t1 : decide ((itN l (j + 1)).ver ≤ (itN l j).ver) = false := by rw [decide_eq_false_iff_not]; omega
        clear he
        go_wp2_with fail
        go_quiet (fail)
        go_wp2_with fail
        go_roundw
        case rel => exact ⟨j + 1, by go_num, .inr (by omega), fun x hx => by
          rcases Nat.lt_succ_iff_lt_or_eq.1 hx with h | rfl
          · exact HX.out x h
          · exact HE.out, belowD HBB.out _⟩
        case measure => simp [intOf]; omega
      · have hR : Hid (r = false) := by
          show r = false
          rw [HR.out]
          have : risB Nt.ver l = false := by
            rw [← Bool.not_eq_true, risB_iff]
            intro e
            have := e j (by have := HL.out; omega)
            rw [← itN_in, ← itN_in] at this
            exact he this
          rw [this, Bool.and_false]
        have t1 : decide ((itN l (j + 1)).ver ≤ (itN l j).ver) = true := by rw [decide_eq_true_iff]; omega
        clear he
        go_wp2_with fail
        go_quiet (fail)
        go_wp2_with fail
        go_ret
        exact ⟨by rw [hR.out]; first | done | rfl, belowT HB.out (belowD HBB.out _)⟩
    · have t0 : decide ((j : Int) + 1 < (n : Int)) = false := by rw [decide_eq_false_iff_not]; omega
      have hR : Hid (r = (decide (0 ≤ cap) && (decide (cap ≤ 8) && decide ((n : Int) ≤ cap)))) := by
        show r = _
        have : risB Nt.ver l = true := by
          rw [risB_iff]
          intro i hi
          have := HX.out i (by have := HL.out; have := HJ.out; omega)
          rwa [itN_in l (by omega), itN_in l hi] at this
        rw [HR.out, this, Bool.and_true, Bool.eq_iff_iff]
        simp only [Bool.and_eq_true, decide_eq_true_iff]
      have HG := Lib.hid (belowT HB.out HBB.out)
      clear HR
      by_cases h1 : 0 ≤ cap
      · by_cases h2 : cap ≤ 8
        · by_cases h3 : (n : Int) ≤ cap
          · have hR' := Lib.hid (show r = true by rw [hR.out]; simp [h1, h2, h3])
            go_wp2_with fail
            go_ret
            exact ⟨by rw [hR'.out]; first | done | rfl, HG.out⟩
          · have hR' := Lib.hid (show r = false by rw [hR.out]; simp [h3])
            have h3' : decide ((n : Int) ≤ cap) = false := decide_eq_false h3
            clear h3
            go_wp2_with fail
            go_ret
            exact ⟨by rw [hR'.out]; first | done | rfl, HG.out⟩
        · have hR' := Lib.hid (show r = false by rw [hR.out]; simp [h2])
          have h2' : decide (cap ≤ 8) = false := decide_eq_false h2
          clear h2
          go_wp2_with fail
          go_ret
          exact ⟨by rw [hR'.out]; first | done | rfl, HG.out⟩
      · have hR' := Lib.hid (show r = false by rw [hR.out]; simp [h1])
        have h1' : decide (0 ≤ cap) = false := decide_eq_false h1
        clear h1
        go_wp2_with fail
        go_ret
        exact ⟨by rw [hR'.out]; first | done | rfl, HG.out⟩
theorem refMay_any (b : Bx) (l : List Nt) (w : World) (h : SlE Ent w (sv b.l) l) (hn : l.length ≤ 1000) :
    Calls Try.prog 19 #[.agg (bx b)] w fun e w' => e = .returned (.bool (mayX Nt.ver (bp b l))) ∧ Below w.heap.size w w' := by
  have hl := sv_len h
  obtain ⟨cap, ⟨p, n, cp⟩, lag, closed⟩ := b
  exact refMay_n cap p n cp lag closed l w h hl (by dsimp only at hl; omega)
end Go.Proofs.Ytiljgnhnpoackaa
