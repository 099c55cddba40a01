/-
  The document's Ints, May, Same, New of rings, walked.
-/
import Derived.Test.YtmcnpefnebehfaaRingH
namespace Go.Proofs.Ytmcnpefnebehfaa
open Go.RowKit

set_option maxRecDepth 100000 in
set_option maxHeartbeats 1000000 in
theorem ints_ne (p q : Option Addr) (n m cl ck : Nat) (w : World) (hl : n ≠ m) :
    Calls Try.prog 19 #[.slice p n cl, .slice q m ck] w fun e w' => e = .returned (.bool false) ∧ Below w.heap.size w w' := by
  have e1 : ((n : Int) == (m : Int)) = false := by simp; omega
  clear hl
  go_enter Try.func19, Try.ntmps19
  go_wp2_with fail
  go_ret
  exact ⟨rfl, Below.refl _ _⟩

set_option maxRecDepth 100000 in
set_option maxHeartbeats 1000000 in
theorem ints_eq (p q : Option Addr) (n cl ck : Nat) (l k : List Int) (w : World) (h : SlI w (.slice p n cl) l) (h' : SlI w (.slice q n ck) k) (hl : l.length = n) (hk : k.length = n) (hn : n ≤ 1000) :
    Calls Try.prog 19 #[.slice p n cl, .slice q n ck] w fun e w' => e = .returned (.bool (decide (l = k))) ∧ Below w.heap.size w w' := by
  have HS := Lib.hid h
  have HT := Lib.hid h'
  have HL := Lib.hid hl
  have HK := Lib.hid hk
  have HN := Lib.hid hn
  obtain ⟨r, hr⟩ : ∃ r, r = decide (l = k) := ⟨_, rfl⟩
  rw [← hr]
  have HR := Lib.hid hr
  clear h h' hl hk hn hr
  go_enter Try.func19, Try.ntmps19
  go_wp2_with fail
  go_loopw [5] (fun i wr => ∃ j : Nat, j ≤ n ∧ i = .int .i64 j ∧ (∀ x, x < j → it l x = it k x) ∧ Below w.heap.size w wr) (fun i _ => n - (intOf i).toNat)
  case atStart => exact ⟨0, Nat.zero_le _, rfl, fun x hx => absurd hx (Nat.not_lt_zero _), Below.refl _ _⟩
  case round =>
    obtain ⟨j, hj, rfl, hx, hb⟩ := hrel
    have HX := Lib.hid hx
    have HB := Lib.hid hb
    clear hx hb
    by_cases hlt : j < n
    · have i0 : (0 : Int) ≤ (j : Int) := by omega
      have i1 : (j : Int) < (n : Int) := by omega
      have u1 : (j : Int) + 1 < 10000 := by have := HN.out; omega
      obtain ⟨b1, o1, c1, e1, _, q1, x1⟩ := slI_ne HS.out (by have := HL.out; omega)
      injection e1 with e2 _ e3
      subst e2 e3
      obtain ⟨b2, o2, c2, e1, _, q2, x2⟩ := slI_ne HT.out (by have := HK.out; omega)
      injection e1 with e2 _ e3
      subst e2 e3
      have y1 : wr.cell? ⟨b1, o1 + j, none⟩ = some (.int .i64 (it l j)) := (HB.out.cell (p := ⟨b1, o1 + j, none⟩) q1).trans (x1 j (by have := HL.out; omega))
      have y2 : wr.cell? ⟨b2, o2 + j, none⟩ = some (.int .i64 (it k j)) := (HB.out.cell (p := ⟨b2, o2 + j, none⟩) q2).trans (x2 j (by have := HK.out; omega))
      clear x1 x2 q1 q2
      by_cases he : it l j = it k j
      · have HE := Lib.hid he
        rw [he] at y1
        clear he
        go_wp2_with fail
        go_quiet (fail)
        go_wp2_with fail
        go_roundw
        case rel => exact ⟨j + 1, by omega, by go_num, fun x hx => by
          rcases Nat.lt_succ_iff_lt_or_eq.1 hx with h | rfl
          · exact HX.out x h
          · exact HE.out, belowD HB.out _⟩
        case measure => simp [intOf]; omega
      · have hR : Hid (r = false) := by
          show r = false
          rw [HR.out, decide_eq_false_iff_not]
          intro e; exact he (by rw [e])
        have t1 : (it l j == it k j) = false := by simpa using he
        clear he
        go_wp2_with fail
        go_quiet (fail)
        go_wp2_with fail
        go_ret
        exact ⟨by rw [hR.out]; first | done | rfl, belowD HB.out _⟩
    · obtain rfl : j = n := by omega
      have hR : Hid (r = true) := by
        show r = true
        rw [HR.out, decide_eq_true_iff]
        exact it_ext (by rw [HL.out, HK.out]) fun i hi => HX.out i (by have := HK.out; omega)
      go_wp2_with fail
      go_ret
      exact ⟨by rw [hR.out]; first | done | rfl, HB.out⟩
/-- The document's Ints: are two lists the same? -/
theorem ints_any (v u : Value) (l k : List Int) (w : World) (h : SlI w v l) (h' : SlI w u k) (hn : l.length ≤ 1000) :
    Calls Try.prog 19 #[v, u] w fun e w' => e = .returned (.bool (decide (l = k))) ∧ Below w.heap.size w w' := by
  have hs := h
  have ht := h'
  obtain ⟨p, cl, rfl, _⟩ := slI_shape h
  obtain ⟨q, ck, rfl, _⟩ := slI_shape h'
  by_cases e : l.length = k.length
  · rw [← e] at ht ⊢
    exact ints_eq p q l.length cl ck l k w hs ht rfl e.symm hn
  · rw [decide_eq_false (fun he => e (by rw [he]))]
    exact ints_ne p q _ _ cl ck w e

set_option maxRecDepth 100000 in
set_option maxHeartbeats 1000000 in
theorem refMay_any (c : Int) (p : Option Addr) (cap : Nat) (l : List Int) (w : World) :
    Calls Try.prog 20 #[.agg #[.int .i64 c, .slice p l.length cap]] w fun e w' => e = .returned (.bool (mayB c l)) ∧ Below w.heap.size w w' := by
  have HB : Hid (Below w.heap.size w (w.alloc (.cells #[.int .i64 c, .slice p l.length cap] 24))) := (Below.refl w.heap.size w).alloc (Nat.le_refl _) _
  have HE : Hid (mayB c l = (decide (0 ≤ c) && decide (c ≤ 8) && decide ((l.length : Int) ≤ c))) := by
    show _ = _
    unfold mayB
    by_cases h1 : 0 ≤ c <;> by_cases h2 : c ≤ 8 <;> simp [h1, h2]
  rw [HE.out]
  clear HE
  by_cases h1 : 0 ≤ c
  · by_cases h2 : c ≤ 8
    · rw [decide_eq_true h1, decide_eq_true h2, Bool.true_and, Bool.true_and]
      go_enter Try.func20, Try.ntmps20
      go_wp2_with fail
      go_ret
      exact ⟨rfl, HB.out⟩
    · have h2' : 8 < c := by omega
      rw [decide_eq_true h1, decide_eq_false h2, Bool.true_and, Bool.false_and]
      clear h2
      go_enter Try.func20, Try.ntmps20
      go_wp2_with fail
      go_ret
      exact ⟨rfl, HB.out⟩
  · have h1' : c < 0 := by omega
    rw [decide_eq_false h1, Bool.false_and, Bool.false_and]
    clear h1
    go_enter Try.func20, Try.ntmps20
    go_wp2_with fail
    go_ret
    exact ⟨rfl, HB.out⟩

set_option maxRecDepth 100000 in
set_option maxHeartbeats 1000000 in
theorem refNew_any (n : Int) (w : World) : Calls Try.prog 17 #[.int .i64 n] w (NewIs n w) := by
  unfold NewIs
  by_cases h1 : 0 ≤ n
  · by_cases h2 : n ≤ 8
    · have e : roomB n = true := by simp [roomB, h1, h2]
      rw [e, if_pos rfl]
      clear e
      go_enter Try.func17, Try.ntmps17
      go_wp2_with fail
      exact bodyPost_ret (v := .tuple #[.agg #[.int .i64 n, .slice none 0 0], .bool true]) (by simp [results, Try.results17, go_sem]) rfl ⟨rfl, (Below.refl _ _).alloc (Nat.le_refl _) _⟩
    · have e : roomB n = false := by simp [roomB, h1, h2]
      have h2' : 8 < n := by omega
      rw [e, if_neg (by simp)]
      clear e h2
      go_enter Try.func17, Try.ntmps17
      go_wp2_with fail
      exact bodyPost_ret (v := .tuple #[.agg #[.int .i64 0, .slice none 0 0], .bool false]) (by simp [results, Try.results17, go_sem]) rfl ⟨rfl, (Below.refl _ _).alloc (Nat.le_refl _) _⟩
  · have e : roomB n = false := by simp [roomB, h1]
    have h1' : n < 0 := by omega
    rw [e, if_neg (by simp)]
    clear e h1
    go_enter Try.func17, Try.ntmps17
    go_wp2_with fail
    exact bodyPost_ret (v := .tuple #[.agg #[.int .i64 0, .slice none 0 0], .bool false]) (by simp [results, Try.results17, go_sem]) rfl ⟨rfl, (Below.refl _ _).alloc (Nat.le_refl _) _⟩

set_option maxRecDepth 100000 in
set_option maxHeartbeats 1000000 in
/-- The document's Same: are two rings the same? -/
theorem refSame_any (c d : Int) (v u : Value) (l k : List Int) (w : World) (h : SlI w v l) (h' : SlI w u k) (hn : l.length ≤ 1000) :
    Calls Try.prog 18 #[.agg #[.int .i64 c, v], .agg #[.int .i64 d, u]] w fun e w' => e = .returned (.bool (decide (l = k) && decide (c = d))) ∧ Below w.heap.size w w' := by
  have HC := Lib.hid (fun W (g : Below w.heap.size w W) => ints_any v u l k W (slI_keep g h) (slI_keep g h') hn)
  obtain ⟨p, cl, rfl, _⟩ := slI_shape h
  obtain ⟨q, ck, rfl, _⟩ := slI_shape h'
  clear h h' hn
  generalize decide (l = k) = r at *
  obtain ⟨W0, hW0⟩ : ∃ W0, W0 = (w.alloc (.cells #[.int .i64 c, .slice p l.length cl] 24)).alloc (.cells #[.int .i64 d, .slice q k.length ck] 24) := ⟨_, rfl⟩
  have HB : Hid (Below w.heap.size w W0) := by rw [hW0]; exact ((Below.refl w.heap.size w).alloc (Nat.le_refl _) _).alloc (by simp) _
  have M0 : Hid (W0.heap[w.heap.size]? = some (.cells #[.int .i64 c, .slice p l.length cl] 24 (0, 0))) := by rw [hW0]; exact heap_alloc2_old w _ _
  have N0 : Hid (W0.heap[w.heap.size + 1]? = some (.cells #[.int .i64 d, .slice q k.length ck] 24 (0, 0))) := by rw [hW0]; exact heap_alloc2_new w _ _
  have HW := Lib.hid hW0
  clear hW0
  go_enter Try.func18, Try.ntmps18
  go_wp2_with fail
  rw [← HW.out]
  refine (HC.out _ HB.out).mono ?_
  rintro e w1 ⟨rfl, g1⟩
  obtain ⟨x0, x1, _, _, xl⟩ := cells2 (blk_keep g1 M0.out)
  obtain ⟨y0, y1, _, _, yl⟩ := cells2 (blk_keep g1 N0.out)
  have HG := Lib.hid (belowT HB.out g1)
  clear g1
  cases r with
  | false =>
    go_wp2_with fail
    go_ret
    exact ⟨by first | rfl | (simp; done) | (simp; rfl), HG.out⟩
  | true =>
    go_wp2_with fail
    go_ret
    exact ⟨by first | rfl | (simp; done) | (simp; rfl), HG.out⟩
end Go.Proofs.Ytmcnpefnebehfaa
