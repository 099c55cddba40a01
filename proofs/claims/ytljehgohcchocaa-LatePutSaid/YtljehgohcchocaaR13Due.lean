/-
  What waits, by the document: Due, walked.
-/
import Derived.Test.YtljehgohcchocaaLateM
namespace Go.Proofs.Ytljehgohcchocaa
open Go.RowKit
set_option maxRecDepth 100000

def dueUp (l : List Aa) (now j : Nat) : List Aa := dueL (l.take j) now
def restUp (l : List Aa) (now j : Nat) : List Aa := restL (l.take j) now
theorem take_att {l : List Aa} {j : Nat} (h : j < l.length) : l.take (j + 1) = l.take j ++ [att l j] := by rw [List.take_succ_eq_append_getElem h, att_in h]
theorem up_yes {l : List Aa} {now j : Nat} (h : j < l.length) (hd : slA l j < now) : dueUp l now (j + 1) = dueUp l now j ++ [att l j] ∧ restUp l now (j + 1) = restUp l now j := by
  unfold dueUp restUp
  rw [take_att h]
  refine ⟨due_last hd, ?_⟩
  rw [rest_app]
  unfold slA at hd
  simp [restL, isDue, hd]
theorem up_no {l : List Aa} {now j : Nat} (h : j < l.length) (hd : ¬ slA l j < now) : dueUp l now (j + 1) = dueUp l now j ∧ restUp l now (j + 1) = restUp l now j ++ [att l j] := by
  unfold dueUp restUp
  rw [take_att h]
  refine ⟨?_, rest_last hd⟩
  rw [due_app]
  unfold slA at hd
  simp [dueL, isDue, hd]
theorem up_len {l : List Aa} {now j : Nat} : (dueUp l now j).length ≤ j ∧ (restUp l now j).length ≤ j := by
  have h1 := due_le (l := l.take j) (now := now)
  have h2 := rest_le (l := l.take j) (now := now)
  have h3 : (l.take j).length ≤ j := by rw [List.length_take]; omega
  exact ⟨Nat.le_trans h1 h3, Nat.le_trans h2 h3⟩
theorem up_all {l : List Aa} {now j : Nat} (h : l.length = j) : dueUp l now j = dueL l now ∧ restUp l now j = restL l now := by
  subst h
  unfold dueUp restUp
  rw [List.take_length]
  exact ⟨rfl, rfl⟩
theorem sep_nil (p q : Nat) : SepE (.slice none 0 p) (.slice none 0 q) := fun b hb => by cases hb

set_option maxRecDepth 100000 in
set_option maxHeartbeats 8000000 in
theorem ref13Due_n (p : Option Addr) (n cp : Nat) (l : List Aa) (now : Nat) (w : World) (h : SlE Eaa w (.slice p n cp) l) (hl : l.length = n) (hn : n ≤ 1000) :
    Calls Try.prog 12 #[.slice p n cp, .int .u64 (now : Int)] w (AttsTwo (dueL l now) (restL l now) w) := by
  have HS := Lib.hid h
  have HL := Lib.hid hl
  have HN := Lib.hid hn
  clear h hl hn
  go_enter Try.func12, Try.ntmps12
  go_wp2_with fail
  go_loopw [6, 7, 8] (fun u v i wr => ∃ j : Nat, j ≤ n ∧ i = .int .i64 (j : Int) ∧ OwnE Eaa wr w.heap.size u (dueUp l now j) ∧ OwnE Eaa wr w.heap.size v (restUp l now j) ∧ SepE u v ∧ Below w.heap.size w wr) (fun _ _ i _ => n - (intOf i).toNat)
  case atStart => exact ⟨0, Nat.zero_le _, rfl, by rw [show dueUp l now 0 = [] from rfl]; exact ownE_nil _ _ _, by rw [show restUp l now 0 = [] from rfl]; exact ownE_nil _ _ _, sep_nil _ _, Below.refl _ _⟩
  case round =>
    obtain ⟨j, hj, rfl, ho1, ho2, hs, hb⟩ := hrel
    have HO1 := Lib.hid ho1
    have HO2 := Lib.hid ho2
    have HSp := Lib.hid hs
    have HB := Lib.hid hb
    have HLe := Lib.hid (up_len (l := l) (now := now) (j := j))
    obtain ⟨pu, cu, rfl⟩ := ownE_shape ho1
    obtain ⟨pv, cv, rfl⟩ := ownE_shape ho2
    obtain ⟨m1, hm1⟩ : ∃ m1, m1 = (dueUp l now j).length := ⟨_, rfl⟩
    obtain ⟨m2, hm2⟩ : ∃ m2, m2 = (restUp l now j).length := ⟨_, rfl⟩
    rw [← hm1] at HO1 HSp HLe
    rw [← hm2] at HO2 HSp HLe
    rw [← hm1, ← hm2]
    have HM1 := Lib.hid hm1
    have HM2 := Lib.hid hm2
    clear ho1 ho2 hs hb hm1 hm2
    by_cases hlt : j < n
    · have i0 : (0 : Int) ≤ (j : Int) := by omega
      have i1 : (j : Int) < (n : Int) := by omega
      have u1 : (j : Int) + 1 < 10000 := by have := HN.out; omega
      obtain ⟨b1, o1, rfl, q1, x1⟩ := atts_ptr (slE_keep HB.out HS.out) (by have := HL.out; omega)
      have y1 := atts_slot x1 (i := j) (by have := HL.out; omega)
      have y2 := atts_ld x1 (i := j) (by have := HL.out; omega)
      have HLT := Lib.hid hlt
      have Z : Hid (w.heap.size ≤ wr.heap.size) := HB.out.size
      have HU1 := Lib.hid (fun h => up_yes (l := l) (now := now) (j := j) (by have := HL.out; omega) h)
      have HU2 := Lib.hid (fun h => up_no (l := l) (now := now) (j := j) (by have := HL.out; omega) h)
      obtain ⟨y, hy⟩ : ∃ y, y = slA l j := ⟨_, rfl⟩
      obtain ⟨x, hx⟩ : ∃ x, x = att l j := ⟨_, rfl⟩
      rw [← hy] at y1 HU1 HU2
      rw [← hx] at y2 HU1 HU2
      clear x1 hlt hy hx q1
      by_cases hd : y < now
      · have d0 : decide ((y : Int) < (now : Int)) = true := decide_eq_true (by omega)
        have d0' : decide (y < now) = true := decide_eq_true hd
        obtain ⟨e1, e2⟩ := HU1.out hd
        have E1 := Lib.hid e1
        have E2 := Lib.hid e2
        clear hd e1 e2
        go_wp2_with (at_builtin; go_loud (refine wpList_append_E Kaa _ rfl (.tmp 22) (.tmp 27) rfl w.heap.size _ _ rfl (ownE_alloc HO1.out _) _ [x] rfl (aa_lit1 _ x _ (by simp)) (by rw [← HM1.out]; have := HLe.out.1; have := HLT.out; have := HN.out; simp; omega) (by have := Z.out; simp; omega) ?_; intro v4 w4 ho4 hg4; have O4 := Lib.hid ho4; have G4 := Lib.hid (Gr.alloc hg4); clear ho4 hg4))
        go_roundw
        case rel => exact ⟨j + 1, HLT.out, by go_num, by rw [E1.out]; exact O4.out, by rw [E2.out]; exact ownE_left HSp.out HO2.out G4.out, sepE_left HSp.out HO2.out G4.out, HB.out.trans (G4.out.own HO1.out Z.out)⟩
        case measure => simp [intOf]; have := HLT.out; omega
      · have d0 : decide ((y : Int) < (now : Int)) = false := decide_eq_false (by omega)
        have d0' : decide (y < now) = false := decide_eq_false hd
        obtain ⟨e1, e2⟩ := HU2.out hd
        have E1 := Lib.hid e1
        have E2 := Lib.hid e2
        clear hd e1 e2
        go_wp2_with (at_builtin; go_loud (refine wpList_append_E Kaa _ rfl (.tmp 29) (.tmp 34) rfl w.heap.size _ _ rfl (ownE_alloc HO2.out _) _ [x] rfl (aa_lit1 _ x _ (by simp)) (by rw [← HM2.out]; have := HLe.out.2; have := HLT.out; have := HN.out; simp; omega) (by have := Z.out; simp; omega) ?_; intro v4 w4 ho4 hg4; have O4 := Lib.hid ho4; have G4 := Lib.hid (Gr.alloc hg4); clear ho4 hg4))
        go_roundw
        case rel => exact ⟨j + 1, HLT.out, by go_num, by rw [E1.out]; exact ownE_right HSp.out HO1.out G4.out, by rw [E2.out]; exact O4.out, sepE_right HSp.out HO1.out G4.out, HB.out.trans (G4.out.own HO2.out Z.out)⟩
        case measure => simp [intOf]; have := HLT.out; omega
    · obtain rfl : j = n := by omega
      obtain ⟨e1, e2⟩ := up_all (now := now) HL.out
      rw [e1] at HO1
      rw [e2] at HO2
      clear hlt e1 e2
      go_wp2_with fail
      go_ret2
      exact ⟨_, _, rfl, ownE_slE HO1.out, ownE_slE HO2.out, HB.out⟩
theorem ref13Due (v : Value) (l : List Aa) (now : Nat) (w : World) (h : SlE Eaa w v l) (hn : l.length ≤ 1000) :
    Calls Try.prog 12 #[v, .int .u64 (now : Int)] w (AttsTwo (dueL l now) (restL l now) w) := by
  have k := h
  obtain ⟨p, cp, rfl, _⟩ := slE_shape h
  exact ref13Due_n p _ cp l now w k rfl hn
theorem enters_ref13Due : ∀ args w, (callFunc 12 args).run Try.prog w = .ok (.enter 12 args) w := entersE Try.func12 (by kernel_rfl) (by kernel_rfl)
end Go.Proofs.Ytljehgohcchocaa
