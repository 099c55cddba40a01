/-
  Attestations held against one another by the document: Same, walked.
-/
import Derived.Test.YtljehgohcchocaaLateM
import Derived.Laws.Cover3
namespace Go.Proofs.Ytljehgohcchocaa
open Go.RowKit
set_option maxRecDepth 100000

set_option maxRecDepth 100000 in
set_option maxHeartbeats 1000000 in
theorem ref13Same_ne (p q : Option Addr) (n m cl ck : Nat) (w : World) (hl : n ≠ m) :
    Calls Try.prog 15 #[.slice p n cl, .slice q m ck] w fun e w' => e = .returned (.bool false) ∧ Below w.heap.size w w' := by
  have e1 : ((n : Int) != (m : Int)) = true := by rw [bne_iff_ne]; omega
  clear hl
  go_enter Try.func15, Try.ntmps15
  go_wp2_with fail
  go_ret
  exact ⟨rfl, Below.refl _ _⟩

set_option maxRecDepth 100000 in
set_option maxHeartbeats 1000000 in
theorem ref13Same_eq (p q : Option Addr) (n cl ck : Nat) (l k : List Aa) (w : World) (h : SlE Eaa w (.slice p n cl) l) (h' : SlE Eaa w (.slice q n ck) k) (hl : l.length = n) (hk : k.length = n) (hn : n ≤ 1000) :
    Calls Try.prog 15 #[.slice p n cl, .slice q n ck] w fun e w' => e = .returned (.bool (decide (l = k))) ∧ Below w.heap.size w w' := by
  have HS := Lib.hid h
  have HT := Lib.hid h'
  have HL := Lib.hid hl
  have HK := Lib.hid hk
  have HN := Lib.hid hn
  obtain ⟨r, hr⟩ : ∃ r, r = decide (l = k) := ⟨_, rfl⟩
  rw [← hr]
  have HR := Lib.hid hr
  clear h h' hl hk hn hr
  go_enter Try.func15, Try.ntmps15
  go_wp2_with fail
  go_loopw [5] (fun i wr => ∃ j : Nat, j ≤ n ∧ i = .int .i64 j ∧ (∀ x, x < j → att l x = att k x) ∧ Below w.heap.size w wr) (fun i _ => n - (intOf i).toNat)
  case atStart => exact ⟨0, Nat.zero_le _, rfl, fun x hx => absurd hx (Nat.not_lt_zero _), Below.refl _ _⟩
  case round =>
    obtain ⟨j, hj, rfl, hx, hb⟩ := hrel
    have HX := Lib.hid hx
    have HB := Lib.hid hb
    clear hx hb
    by_cases hlt : j < n
    · have i0 : (0 : Int) ≤ (j : Int) := by omega
      have i1 : (j : Int) < (n : Int) := by omega
      have u1 : (j : Int) + 1 < 10000 := by have := HN.out; omega
      obtain ⟨b1, o1, c1, e1, _, q1, x1⟩ := slE_ne HS.out (by have := HL.out; omega)
      injection e1 with e2 _ e3
      subst e2 e3
      obtain ⟨b2, o2, c2, e1, _, q2, x2⟩ := slE_ne HT.out (by have := HK.out; omega)
      injection e1 with e2 _ e3
      subst e2 e3
      have y1 : ldA wr (.pointer (some ⟨b1, o1 + j * 100, none⟩)) 100 = some (aa (att l j)) := keep HB.out (atts_ld x1 (by have := HL.out; omega))
      have y2 : ldA wr (.pointer (some ⟨b2, o2 + j * 100, none⟩)) 100 = some (aa (att k j)) := keep HB.out (atts_ld x2 (by have := HK.out; omega))
      clear x1 x2 q1 q2
      by_cases he : att l j = att k j
      · have HE := Lib.hid he
        rw [he] at y1
        clear he
        go_wp2_with fail
        go_quiet (fail)
        go_wp2_with fail
        go_roundw
        case rel => exact ⟨j + 1, by omega, by go_num, fun x hx => by
          rcases Nat.lt_succ_iff_lt_or_eq.1 hx with h | rfl
          · exact HX.out x h
          · exact HE.out, belowD HB.out _⟩
        case measure => simp [intOf]; omega
      · have hR : Hid (r = false) := by
          show r = false
          rw [HR.out, decide_eq_false_iff_not]
          intro e; exact he (by rw [e])
        have t1 : decide (att l j = att k j) = false := decide_eq_false he
        clear he
        go_wp2_with fail
        go_quiet (fail)
        go_wp2_with fail
        go_ret
        exact ⟨by rw [hR.out]; first | done | rfl, belowD HB.out _⟩
    · obtain rfl : j = n := by omega
      have hR : Hid (r = true) := by
        show r = true
        rw [HR.out, decide_eq_true_iff]
        exact att_ext (by rw [HL.out, HK.out]) fun i hi => HX.out i (by have := HK.out; omega)
      go_wp2_with fail
      go_ret
      exact ⟨by rw [hR.out]; first | done | rfl, HB.out⟩
/-- Are two lists the same? -/
theorem ref13Same (v u : Value) (l k : List Aa) (w : World) (h : SlE Eaa w v l) (h' : SlE Eaa w u k) (hn : l.length ≤ 1000) :
    Calls Try.prog 15 #[v, u] w fun e w' => e = .returned (.bool (decide (l = k))) ∧ Below w.heap.size w w' := by
  have hs := h
  have ht := h'
  obtain ⟨p, cl, rfl, _⟩ := slE_shape h
  obtain ⟨q, ck, rfl, _⟩ := slE_shape h'
  by_cases e : l.length = k.length
  · rw [← e] at ht ⊢
    exact ref13Same_eq p q l.length cl ck l k w hs ht rfl e.symm hn
  · rw [decide_eq_false (fun he => e (by rw [he]))]
    exact ref13Same_ne p q _ _ cl ck w e
theorem enters_ref13Same : ∀ args w, (callFunc 15 args).run Try.prog w = .ok (.enter 15 args) w := entersE Try.func15 (by kernel_rfl) (by kernel_rfl)
end Go.Proofs.Ytljehgohcchocaa
