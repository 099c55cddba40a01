/-
  Lists of notes held against one another: the document's Notes, slices.Equal; Clone, walked.
-/
import Derived.Test.YtiljgnhnpoackaaBoxB
import Derived.Laws.Cover3
namespace Go.Proofs.Ytiljgnhnpoackaa
open Go.RowKit

theorem itN_ext {l k : List Nt} (hl : l.length = k.length) (h : ∀ i, i < k.length → itN l i = itN k i) : l = k := by
  refine List.ext_getElem hl fun i h1 h2 => ?_
  have := h i h2
  rwa [itN_in l h1, itN_in k h2] at this

set_option maxRecDepth 100000 in
set_option maxHeartbeats 1000000 in
theorem notes_ne (p q : Option Addr) (n m cl ck : Nat) (w : World) (hl : n ≠ m) :
    Calls Try.prog 22 #[.slice p n cl, .slice q m ck] w fun e w' => e = .returned (.bool false) ∧ Below w.heap.size w w' := by
  have e1 : ((n : Int) == (m : Int)) = false := by simp; omega
  clear hl
  go_enter Try.func22, Try.ntmps22
  go_wp2_with fail
  go_ret
  exact ⟨rfl, Below.refl _ _⟩

set_option maxRecDepth 100000 in
set_option maxHeartbeats 1000000 in
theorem notes_eq (p q : Option Addr) (n cl ck : Nat) (l k : List Nt) (w : World) (h : SlE Ent w (.slice p n cl) l) (h' : SlE Ent w (.slice q n ck) k) (hl : l.length = n) (hk : k.length = n) (hn : n ≤ 1000) :
    Calls Try.prog 22 #[.slice p n cl, .slice q n ck] w fun e w' => e = .returned (.bool (decide (l = k))) ∧ Below w.heap.size w w' := by
  have HS := Lib.hid h
  have HT := Lib.hid h'
  have HL := Lib.hid hl
  have HK := Lib.hid hk
  have HN := Lib.hid hn
  obtain ⟨r, hr⟩ : ∃ r, r = decide (l = k) := ⟨_, rfl⟩
  rw [← hr]
  have HR := Lib.hid hr
  clear h h' hl hk hn hr
  go_enter Try.func22, Try.ntmps22
  go_wp2_with fail
  go_loopw [5] (fun i wr => ∃ j : Nat, j ≤ n ∧ i = .int .i64 j ∧ (∀ x, x < j → itN l x = itN k x) ∧ Below w.heap.size w wr) (fun i _ => n - (intOf i).toNat)
  case atStart => exact ⟨0, Nat.zero_le _, rfl, fun x hx => absurd hx (Nat.not_lt_zero _), Below.refl _ _⟩
  case round =>
    obtain ⟨j, hj, rfl, hx, hb⟩ := hrel
    have HX := Lib.hid hx
    have HB := Lib.hid hb
    clear hx hb
    by_cases hlt : j < n
    · have i0 : (0 : Int) ≤ (j : Int) := by omega
      have i1 : (j : Int) < (n : Int) := by omega
      have u1 : (j : Int) + 1 < 10000 := by have := HN.out; omega
      obtain ⟨b1, o1, c1, e1, _, q1, x1⟩ := slE_ne HS.out (by have := HL.out; omega)
      injection e1 with e2 _ e3
      subst e2 e3
      obtain ⟨b2, o2, c2, e1, _, q2, x2⟩ := slE_ne HT.out (by have := HK.out; omega)
      injection e1 with e2 _ e3
      subst e2 e3
      have y1 : ldA wr (.pointer (some ⟨b1, o1 + j * 66, none⟩)) 66 = some (nt (itN l j)) := keep HB.out (nts_ld x1 (by have := HL.out; omega))
      have y2 : ldA wr (.pointer (some ⟨b2, o2 + j * 66, none⟩)) 66 = some (nt (itN k j)) := keep HB.out (nts_ld x2 (by have := HK.out; omega))
      clear x1 x2 q1 q2
      by_cases he : itN l j = itN k j
      · have HE := Lib.hid he
        rw [he] at y1
        clear he
        go_wp2_with fail
        go_quiet (fail)
        go_wp2_with fail
        go_roundw
        case rel => exact ⟨j + 1, by omega, by go_num, fun x hx => by
          rcases Nat.lt_succ_iff_lt_or_eq.1 hx with h | rfl
          · exact HX.out x h
          · exact HE.out, belowD HB.out _⟩
        case measure => simp [intOf]; omega
      · have hR : Hid (r = false) := by
          show r = false
          rw [HR.out, decide_eq_false_iff_not]
          intro e; exact he (by rw [e])
        have t1 : decide (itN l j = itN k j) = false := decide_eq_false he
        clear he
        go_wp2_with fail
        go_quiet (fail)
        go_wp2_with fail
        go_ret
        exact ⟨by rw [hR.out]; first | done | rfl, belowD HB.out _⟩
    · obtain rfl : j = n := by omega
      have hR : Hid (r = true) := by
        show r = true
        rw [HR.out, decide_eq_true_iff]
        exact itN_ext (by rw [HL.out, HK.out]) fun i hi => HX.out i (by have := HK.out; omega)
      go_wp2_with fail
      go_ret
      exact ⟨by rw [hR.out]; first | done | rfl, HB.out⟩
/-- Are two lists the same? -/
theorem notes_any (s t : SlV) (l k : List Nt) (w : World) (h : SlE Ent w (sv s) l) (h' : SlE Ent w (sv t) k) (hn : l.length ≤ 1000) :
    Calls Try.prog 22 #[sv s, sv t] w fun e w' => e = .returned (.bool (decide (l = k))) ∧ Below w.heap.size w w' := by
  have hs := sv_len h
  have ht := sv_len h'
  obtain ⟨p, n, cl⟩ := s
  obtain ⟨q, m, ck⟩ := t
  dsimp only at hs ht
  by_cases e : n = m
  · subst e
    exact notes_eq p q n cl ck l k w h h' hs ht (by omega)
  · rw [decide_eq_false (fun he => e (by rw [← hs, ← ht, he]))]
    exact notes_ne p q n m cl ck w e

set_option maxRecDepth 100000 in
set_option maxHeartbeats 1000000 in
theorem equal_ne (p q : Option Addr) (n m cl ck : Nat) (w : World) (hl : n ≠ m) :
    Calls Try.prog 29 #[.slice p n cl, .slice q m ck] w fun e w' => e = .returned (.bool false) ∧ Below w.heap.size w w' := by
  have e1 : ((n : Int) == (m : Int)) = false := by simp; omega
  clear hl
  go_enter Try.func29, Try.ntmps29
  go_wp2_with fail
  go_ret
  exact ⟨rfl, Below.refl _ _⟩

set_option maxRecDepth 100000 in
set_option maxHeartbeats 1000000 in
theorem equal_eq (p q : Option Addr) (n cl ck : Nat) (l k : List Nt) (w : World) (h : SlE Ent w (.slice p n cl) l) (h' : SlE Ent w (.slice q n ck) k) (hl : l.length = n) (hk : k.length = n) (hn : n ≤ 1000) :
    Calls Try.prog 29 #[.slice p n cl, .slice q n ck] w fun e w' => e = .returned (.bool (decide (l = k))) ∧ Below w.heap.size w w' := by
  have HS := Lib.hid h
  have HT := Lib.hid h'
  have HL := Lib.hid hl
  have HK := Lib.hid hk
  have HN := Lib.hid hn
  obtain ⟨r, hr⟩ : ∃ r, r = decide (l = k) := ⟨_, rfl⟩
  rw [← hr]
  have HR := Lib.hid hr
  clear h h' hl hk hn hr
  go_enter Try.func29, Try.ntmps29
  go_wp2_with fail
  go_loopw [5, 13] (fun _ i wr => ∃ j : Nat, j ≤ n ∧ i = .int .i64 j ∧ (∀ x, x < j → itN l x = itN k x) ∧ Below w.heap.size w wr) (fun _ i _ => n - (intOf i).toNat)
  case atStart => exact ⟨0, Nat.zero_le _, rfl, fun x hx => absurd hx (Nat.not_lt_zero _), Below.refl _ _⟩
  case round =>
    obtain ⟨j, hj, rfl, hx, hb⟩ := hrel
    have HX := Lib.hid hx
    have HB := Lib.hid hb
    clear hx hb
    by_cases hlt : j < n
    · have i0 : (0 : Int) ≤ (j : Int) := by omega
      have i1 : (j : Int) < (n : Int) := by omega
      have u1 : (j : Int) + 1 < 10000 := by have := HN.out; omega
      obtain ⟨b1, o1, c1, e1, _, q1, x1⟩ := slE_ne HS.out (by have := HL.out; omega)
      injection e1 with e2 _ e3
      subst e2 e3
      obtain ⟨b2, o2, c2, e1, _, q2, x2⟩ := slE_ne HT.out (by have := HK.out; omega)
      injection e1 with e2 _ e3
      subst e2 e3
      have y1 : ldA wr (.pointer (some ⟨b1, o1 + j * 66, none⟩)) 66 = some (nt (itN l j)) := keep HB.out (nts_ld x1 (by have := HL.out; omega))
      have y2 : ldA wr (.pointer (some ⟨b2, o2 + j * 66, none⟩)) 66 = some (nt (itN k j)) := keep HB.out (nts_ld x2 (by have := HK.out; omega))
      clear x1 x2 q1 q2
      by_cases he : itN l j = itN k j
      · have HE := Lib.hid he
        rw [he] at y1
        clear he
        go_wp2_with fail
        go_quiet (fail)
        go_wp2_with fail
        go_roundw
        case rel => exact ⟨j + 1, by omega, by go_num, fun x hx => by
          rcases Nat.lt_succ_iff_lt_or_eq.1 hx with h | rfl
          · exact HX.out x h
          · exact HE.out, belowD HB.out _⟩
        case measure => simp [intOf]; omega
      · have hR : Hid (r = false) := by
          show r = false
          rw [HR.out, decide_eq_false_iff_not]
          intro e; exact he (by rw [e])
        have t1 : decide (itN l j = itN k j) = false := decide_eq_false he
        clear he
        go_wp2_with fail
        go_quiet (fail)
        go_wp2_with fail
        go_ret
        exact ⟨by rw [hR.out]; first | done | rfl, belowD HB.out _⟩
    · obtain rfl : j = n := by omega
      have hR : Hid (r = true) := by
        show r = true
        rw [HR.out, decide_eq_true_iff]
        exact itN_ext (by rw [HL.out, HK.out]) fun i hi => HX.out i (by have := HK.out; omega)
      go_wp2_with fail
      go_ret
      exact ⟨by rw [hR.out]; first | done | rfl, HB.out⟩
/-- Are two lists the same? -/
theorem equal_any (s t : SlV) (l k : List Nt) (w : World) (h : SlE Ent w (sv s) l) (h' : SlE Ent w (sv t) k) (hn : l.length ≤ 1000) :
    Calls Try.prog 29 #[sv s, sv t] w fun e w' => e = .returned (.bool (decide (l = k))) ∧ Below w.heap.size w w' := by
  have hs := sv_len h
  have ht := sv_len h'
  obtain ⟨p, n, cl⟩ := s
  obtain ⟨q, m, ck⟩ := t
  dsimp only at hs ht
  by_cases e : n = m
  · subst e
    exact equal_eq p q n cl ck l k w h h' hs ht (by omega)
  · rw [decide_eq_false (fun he => e (by rw [← hs, ← ht, he]))]
    exact equal_ne p q n m cl ck w e

theorem eq_nilN (p : Option Addr) (n cap : Nat) (w : World) : (binOp .eql 22 (.slice p n cap) (.slice none 0 0)).run Try.prog w = .ok (.bool p.isNone) w := by
  have h := run_equalIn_slice_nil (P := Try.prog) w 9999 22 31 p n cap Try.underlying22
  simp [binOp, Op.equal, Op.maxDepth, h]
/-- A row of the call's own is answered. -/
def SlIs (l : List Nt) (w : World) (e : Ending) (w' : World) : Prop := ∃ v, e = .returned v ∧ OwnE Ent w' w.heap.size v l ∧ Below w.heap.size w w'

set_option maxRecDepth 100000 in
set_option maxHeartbeats 1000000 in
theorem clone_n (p : Option Addr) (n cap : Nat) (l : List Nt) (w : World) (h : SlE Ent w (.slice p n cap) l) (hl : l.length = n) (hn : n ≤ 1000) :
    Calls Try.prog 30 #[.slice p n cap] w (SlIs l w) := by
  have HS := Lib.hid h
  have HL := Lib.hid hl
  have HN := Lib.hid hn
  cases p with
  | none =>
    have hn0 : l = [] := by
      obtain ⟨p, cap', e, _, h⟩ := h
      injection e with e
      subst e
      exact h.resolve_right (fun ⟨_, _, e, _⟩ => by cases e)
    have e : n = 0 := by rw [← hl, hn0]; rfl
    subst hn0 e
    clear HS h hl hn
    have he : ∀ w, (binOp .eql 22 (.slice none 0 cap) (.slice none 0 0)).run Try.prog w = .ok (.bool true) w := fun w => eq_nilN none 0 cap w
    go_enter Try.func30, Try.ntmps30
    go_wp2_with fail
    go_ret
    exact ⟨_, rfl, ownE_nil _ _ _, Below.refl _ _⟩
  | some a =>
    have HO : Hid (OwnE Ent (w.alloc (.cells #[] 31)) w.heap.size (.slice (some ⟨w.heap.size, 0, none⟩) 0 0) []) := ownE_lit (E := Ent) w [] 0 rfl (by simp [maxLen]) #[] rfl _ rfl
    have HB : Hid (Below w.heap.size w (w.alloc (.cells #[] 31))) := below1
    clear h hl hn
    have he : ∀ w, (binOp .eql 22 (.slice (some a) n cap) (.slice none 0 0)).run Try.prog w = .ok (.bool false) w := fun w => eq_nilN (some a) n cap w
    go_enter Try.func30, Try.ntmps30
    go_wp2_with (at_builtin; refine wpList_append_E Knt _ rfl (.tmp 5) (.tmp 6) rfl w.heap.size _ [] rfl HO.out _ l rfl (slE_keep HB.out HS.out) (by have := HL.out; have := HN.out; simp; omega) (by simp) ?_; intro v2 w2 ho2 hg2)
    go_ret
    exact ⟨_, rfl, by simpa using ho2, HB.out.trans (hg2.own HO.out (by simp))⟩
theorem clone_any (s : SlV) (l : List Nt) (w : World) (h : SlE Ent w (sv s) l) (hn : l.length ≤ 1000) :
    Calls Try.prog 30 #[sv s] w (SlIs l w) := by
  have hs := sv_len h
  obtain ⟨p, n, cl⟩ := s
  exact clone_n p n cl l w h hs (by dsimp only at hs; omega)
theorem enters_clone : ∀ args w, (callFunc 30 args).run Try.prog w = .ok (.enter 30 args) w := entersE Try.func30 (by kernel_rfl) (by kernel_rfl)
end Go.Proofs.Ytiljgnhnpoackaa
