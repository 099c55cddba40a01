/-
  The document's Ints (are two lists the same?), walked; in any seat that has it (XR04Ints without what tree's Cut wants).
-/
import Derived.Test.YtjjncaojicjfjaaIntU
namespace Go.Proofs.Ytjjncaojicjfjaa
open Go.RowKit

set_option maxRecDepth 100000 in
set_option maxHeartbeats 1000000 in
theorem ints_ne (p q : Option Addr) (n m cl ck : Nat) (w : World) (hl : n ≠ m) :
    Calls Try.prog 10 #[.slice p n cl, .slice q m ck] w fun e w' => e = .returned (.bool false) ∧ Below w.heap.size w w' := by
  have e1 : ((n : Int) == (m : Int)) = false := by simp; omega
  clear hl
  go_enter Try.func10, Try.ntmps10
  go_wp2_with fail
  go_ret
  exact ⟨rfl, Below.refl _ _⟩

set_option maxRecDepth 100000 in
set_option maxHeartbeats 1000000 in
theorem ints_eq (p q : Option Addr) (n cl ck : Nat) (l k : List Int) (w : World) (h : SlE Eint w (.slice p n cl) l) (h' : SlE Eint w (.slice q n ck) k) (hl : l.length = n) (hk : k.length = n) (hn : n ≤ 1000) :
    Calls Try.prog 10 #[.slice p n cl, .slice q n ck] w fun e w' => e = .returned (.bool (decide (l = k))) ∧ Below w.heap.size w w' := by
  have HS := Lib.hid h
  have HT := Lib.hid h'
  have HL := Lib.hid hl
  have HK := Lib.hid hk
  have HN := Lib.hid hn
  obtain ⟨r, hr⟩ : ∃ r, r = decide (l = k) := ⟨_, rfl⟩
  rw [← hr]
  have HR := Lib.hid hr
  clear h h' hl hk hn hr
  go_enter Try.func10, Try.ntmps10
  go_wp2_with fail
  go_loopw [5] (fun i wr => ∃ j : Nat, j ≤ n ∧ i = .int .i64 (j : Int) ∧ (∀ x, x < j → l.getD x 0 = k.getD x 0) ∧ Below w.heap.size w wr) (fun i _ => n - (intOf i).toNat)
  case atStart => exact ⟨0, Nat.zero_le _, rfl, fun x hx => absurd hx (Nat.not_lt_zero _), Below.refl _ _⟩
  case round =>
    obtain ⟨j, hj, rfl, hx, hb⟩ := hrel
    have HX := Lib.hid hx
    have HB := Lib.hid hb
    clear hx hb
    by_cases hlt : j < n
    · have i0 : (0 : Int) ≤ (j : Int) := by omega
      have i1 : (j : Int) < (n : Int) := by omega
      have u1 : (j : Int) + 1 < 10000 := by have := HN.out; omega
      obtain ⟨b1, o1, c1, e1, _, q1, x1⟩ := slE_ne (slE_keep HB.out HS.out) (by have := HL.out; omega)
      have e1' : p = some ⟨b1, o1, none⟩ := by injection e1
      subst e1'
      obtain ⟨b2, o2, c2, e2, _, q2, x2⟩ := slE_ne (slE_keep HB.out HT.out) (by have := HK.out; omega)
      have e2' : q = some ⟨b2, o2, none⟩ := by injection e2
      subst e2'
      have y1 := ints_at x1 (i := j) (by have := HL.out; omega)
      have y2 := ints_at x2 (i := j) (by have := HK.out; omega)
      clear x1 x2 q1 q2 e1 e2
      obtain ⟨yl, hyl⟩ : ∃ y, y = l.getD j 0 := ⟨_, rfl⟩
      obtain ⟨yk, hyk⟩ : ∃ y, y = k.getD j 0 := ⟨_, rfl⟩
      rw [← hyl] at y1
      rw [← hyk] at y2
      have HYl := Lib.hid hyl
      have HYk := Lib.hid hyk
      clear hyl hyk
      by_cases he : yl = yk
      · have HE : Hid (l.getD j 0 = k.getD j 0) := by show _ = _; rw [← HYl.out, ← HYk.out]; exact he
        rw [he] at y1
        clear he
        go_wp2_with fail
        go_quiet (fail)
        go_wp2_with fail
        go_roundw
        case rel => exact ⟨j + 1, by omega, by go_num, fun x hx => by
          rcases Nat.lt_succ_iff_lt_or_eq.1 hx with h | rfl
          · exact HX.out x h
          · exact HE.out, belowD HB.out _⟩
        case measure => simp [intOf]; omega
      · have hR : Hid (r = false) := by
          show r = false
          rw [HR.out, decide_eq_false_iff_not]
          intro e
          exact he (by rw [HYl.out, HYk.out, e])
        have t1 : (yl == yk) = false := by simpa using he
        clear he
        go_wp2_with fail
        go_quiet (fail)
        go_wp2_with fail
        go_ret
        exact ⟨by rw [hR.out]; first | done | rfl, belowD HB.out _⟩
    · obtain rfl : j = n := by omega
      have hR : Hid (r = true) := by
        show r = true
        rw [HR.out, decide_eq_true_iff]
        refine List.ext_getElem (by rw [HL.out, HK.out]) fun i hi hi' => ?_
        have := HX.out i (by have := HL.out; omega)
        rwa [List.getD_eq_getElem?_getD, List.getD_eq_getElem?_getD, List.getElem?_eq_getElem hi, List.getElem?_eq_getElem hi'] at this
      go_wp2_with fail
      go_ret
      exact ⟨by rw [hR.out]; first | done | rfl, HB.out⟩
/-- The document's Ints: are two lists the same? -/
theorem ref04Ints (v u : Value) (l k : List Int) (w : World) (h : SlE Eint w v l) (h' : SlE Eint w u k) (hn : l.length ≤ 1000) :
    Calls Try.prog 10 #[v, u] w fun e w' => e = .returned (.bool (decide (l = k))) ∧ Below w.heap.size w w' := by
  have hs := h
  have ht := h'
  obtain ⟨p, cl, rfl, _⟩ := slE_shape h
  obtain ⟨q, ck, rfl, _⟩ := slE_shape h'
  by_cases e : l.length = k.length
  · rw [← e] at ht ⊢
    exact ints_eq p q l.length cl ck l k w hs ht rfl e.symm hn
  · rw [decide_eq_false (fun he => e (by rw [he]))]
    exact ints_ne p q _ _ cl ck w e
theorem enters_ref04Ints : ∀ args w, (callFunc 10 args).run Try.prog w = .ok (.enter 10 args) w := entersE Try.func10 (by kernel_rfl) (by kernel_rfl)
end Go.Proofs.Ytjjncaojicjfjaa
