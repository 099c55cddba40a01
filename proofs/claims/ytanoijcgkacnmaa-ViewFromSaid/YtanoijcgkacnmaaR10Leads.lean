/-
  The document's views: Leads, walked.
-/
import Derived.Test.YtanoijcgkacnmaaR10Leaf
import Derived.Test.YtanoijcgkacnmaaLexE
namespace Go.Proofs.Ytanoijcgkacnmaa
open Go.RowKit

set_option maxRecDepth 100000 in
set_option maxHeartbeats 4000000 in
theorem ref10Leads_no (p : Option Addr) (n cp : Nat) (l : List Nd) (just : Nat) (fin : Int) (w : World) (h : SlE Ene w (.slice p n cp) l) (hl : l.length = n) (hn : n ≤ 1000) (hm : ¬ MayT l) :
    Calls Try.prog 12 #[.agg (tr ⟨⟨p, n, cp⟩⟩), .int .u64 (just : Int), .int .i64 fin] w (BoosIs [] w) := by
  have V : Hid (Tw w (w.alloc (.cells (tr ⟨⟨p, n, cp⟩⟩) 24)) w.heap.size ⟨p, n, cp⟩ l) := tw_one h
  obtain ⟨W0, hW0⟩ : ∃ W0, W0 = w.alloc (.cells (tr ⟨⟨p, n, cp⟩⟩) 24) := ⟨_, rfl⟩
  rw [← hW0] at V
  have A := V
  have HW := Lib.hid hW0
  have HM := Lib.hid (fun W (g : SlE Ene W (.slice p n cp) l) => refMayT ⟨p, n, cp⟩ l W g (by omega))
  rw [decide_eq_false hm] at HM
  clear V hW0 h hl hn hm
  go_enter Try.func12, Try.ntmps12
  go_wp2_with fail
  rw [← HW.out]
  refine (HM.out _ A.out.s).mono ?_
  rintro e w1 ⟨rfl, g⟩
  replace A := Lib.hid (A.out.keep g)
  clear g
  go_wp2_with fail
  go_loopw [7, 9] (fun v i wr => v = .slice none 0 0 ∧ i = .int .i64 0 ∧ Below w1.heap.size w1 wr) (fun _ _ _ => 0)
  case atStart => exact ⟨rfl, rfl, Below.refl _ _⟩
  case round =>
    obtain ⟨rfl, rfl, hb⟩ := hrel
    have A2 := Lib.hid (A.out.keep hb)
    have z0 := A2.out.z0
    rw [sv_mk] at z0
    clear hb
    by_cases h0 : 0 < n
    · have d0 : decide ((0 : Int) < (n : Int)) = true := decide_eq_true (by omega)
      have d1 : decide (0 < n) = true := decide_eq_true h0
      clear h0
      go_wp2_with fail
      go_ret
      exact ⟨_, rfl, ownE_nil _ _ _, A2.out.g⟩
    · have d0 : decide ((0 : Int) < (n : Int)) = false := decide_eq_false (by omega)
      have d1 : decide (0 < n) = false := decide_eq_false h0
      clear h0
      go_wp2_with fail
      go_ret
      exact ⟨_, rfl, ownE_nil _ _ _, A2.out.g⟩

set_option maxRecDepth 100000 in
set_option maxHeartbeats 16000000 in
theorem ref10Leads_yes (p : Option Addr) (n cp : Nat) (l : List Nd) (just : Nat) (fin : Int) (w : World) (h : SlE Ene w (.slice p n cp) l) (hl : l.length = n) (hm : MayT l) :
    Calls Try.prog 12 #[.agg (tr ⟨⟨p, n, cp⟩⟩), .int .u64 (just : Int), .int .i64 fin] w (BoosIs (boosT (leadB l just fin) n) w) := by
  have V : Hid (Tw w (w.alloc (.cells (tr ⟨⟨p, n, cp⟩⟩) 24)) w.heap.size ⟨p, n, cp⟩ l) := tw_one h
  obtain ⟨W0, hW0⟩ : ∃ W0, W0 = w.alloc (.cells (tr ⟨⟨p, n, cp⟩⟩) 24) := ⟨_, rfl⟩
  rw [← hW0] at V
  have A := V
  have HW := Lib.hid hW0
  have HM := Lib.hid (fun W (g : SlE Ene W (.slice p n cp) l) => refMayT ⟨p, n, cp⟩ l W g (by have := hm.le; omega))
  rw [decide_eq_true hm] at HM
  have HAb : Hid (∀ W, SlE Ene W (.slice p n cp) l → ∀ i k : Nat, i < n → k < n → Calls Try.prog 23 #[.agg (tr ⟨⟨p, n, cp⟩⟩), .int .i64 (i : Int), .int .i64 (k : Int)] W fun e w' => e = .returned (.bool (aboveT l i k)) ∧ Below W.heap.size W w') := fun W g i k hi hk => by
    have := refAbove ⟨p, n, cp⟩ l (i : Int) (k : Int) W g (by have := hm.le; omega)
    rwa [aboveZ_nat hm (by omega) (by omega)] at this
  have HLf := Lib.hid (fun W (g : SlE Ene W (.slice p n cp) l) (k : Nat) => ref10Leaf ⟨p, n, cp⟩ l just fin (k : Int) W g (by have := hm.le; omega))
  have HL := Lib.hid hl
  have HN : Hid (n ≤ 12) := by show n ≤ 12; have := hm.le; omega
  clear V hW0 h hl hm
  go_enter Try.func12, Try.ntmps12
  go_wp2_with fail
  rw [← HW.out]
  refine (HM.out _ A.out.s).mono ?_
  rintro e w1 ⟨rfl, g⟩
  replace A := Lib.hid (A.out.keep g)
  clear g
  go_wp2_with fail
  go_loopw [7, 9] (fun v i wr => ∃ j : Nat, j ≤ n ∧ i = .int .i64 (j : Int) ∧ OwnE Eboo wr w1.heap.size v (boosT (leadB l just fin) j) ∧ Below w1.heap.size w1 wr) (fun _ i _ => n - (intOf i).toNat)
  case atStart => exact ⟨0, Nat.zero_le _, rfl, ownE_nil _ _ _, Below.refl _ _⟩
  case round =>
    obtain ⟨i, hi, rfl, hown, hb⟩ := hrel
    obtain ⟨wo, rfl⟩ : ∃ wo : World, wo = wr := ⟨_, rfl⟩
    have HO := Lib.hid hown
    have HBB := Lib.hid hb
    have A1 := Lib.hid (A.out.keep hb)
    have z0 := A1.out.z0
    rw [sv_mk] at z0
    obtain ⟨pv, cv, rfl⟩ := ownE_len hown (boosT_len _ i)
    clear hown hb
    by_cases hlt : i < n
    · have d0 : decide ((i : Int) < (n : Int)) = true := decide_eq_true (by omega)
      have d1 : decide (i < n) = true := decide_eq_true hlt
      have u1 : (i : Int) + 1 < 10000 := by have := HN.out; omega
      have HLT := Lib.hid hlt
      have HLn := Lib.hid (boosT_len (leadB l just fin) i)
      clear hlt
      go_wp2_with fail
      go_loopw [10, 11] (fun s k wr => ∃ j : Nat, j ≤ n ∧ k = .int .i64 (j : Int) ∧ s = .bool (anyL l just fin i j) ∧ Below wo.heap.size wo wr) (fun _ k _ => n - (intOf k).toNat)
      case atStart => exact ⟨0, Nat.zero_le _, rfl, rfl, Below.refl _ _⟩
      case round =>
        obtain ⟨j, hj, rfl, rfl, hb⟩ := hrel
        have HI := Lib.hid hb
        have A2 := Lib.hid (A1.out.keep hb)
        clear hb z0
        have z1 := A2.out.z1
        have z0 := A2.out.z0
        rw [sv_mk] at z0
        by_cases hjt : j < n
        · have e0 : decide ((j : Int) < (n : Int)) = true := decide_eq_true (by omega)
          have e1 : decide (j < n) = true := decide_eq_true hjt
          have v1 : (j : Int) + 1 < 10000 := by have := HN.out; omega
          have HJT := Lib.hid hjt
          have HC := Lib.hid (HAb.out wr A2.out.s i j HLT.out hjt)
          obtain ⟨r, hr⟩ : ∃ r, r = aboveT l i j := ⟨_, rfl⟩
          obtain ⟨f, hf⟩ : ∃ f, f = leafT l just fin (j : Int) := ⟨_, rfl⟩
          obtain ⟨x, hx⟩ : ∃ x, x = anyL l just fin i j := ⟨_, rfl⟩
          have HE : Hid (anyL l just fin i (j + 1) = (x || (r && f))) := by rw [hr, hf, hx]; exact anyL_succ
          rw [← hr] at HC
          rw [← hx]
          have HF := Lib.hid (fun W (g : SlE Ene W (.slice p n cp) l) => HLf.out W g j)
          rw [← hf] at HF
          clear hjt hr hf hx
          go_wp2_with fail
          refine HC.out.mono ?_
          rintro e w3 ⟨rfl, g3⟩
          replace A2 := Lib.hid (A2.out.keep g3)
          replace HI := Lib.hid (belowT HI.out g3)
          clear g3 z0 z1
          have z1 := A2.out.z1
          go_wp2_with fail
          refine (HF.out _ A2.out.s).mono ?_
          rintro e w4 ⟨rfl, g3⟩
          replace HI := Lib.hid (belowT HI.out g3)
          clear g3 z1
          cases x <;> cases r <;> cases f <;> (
            go_wp2_with fail
            go_roundw
            case rel => exact ⟨j + 1, HJT.out, by go_num, by rw [HE.out]; rfl, HI.out⟩
            case measure => simp [intOf]; have := HJT.out; omega)
        · obtain rfl : j = n := by omega
          have e0 : decide ((j : Int) < (j : Int)) = false := decide_eq_false (Int.lt_irrefl _)
          have HE : Hid (anyL l just fin i j = leadB l just fin i) := by show _ = _; rw [← HL.out]; exact anyL_all
          have O3 := Lib.hid (ownE_keep HI.out HO.out)
          obtain ⟨x, hx⟩ : ∃ x, x = anyL l just fin i j := ⟨_, rfl⟩
          rw [← hx] at HE
          rw [← hx]
          clear hjt hx
          go_wp2_with (at_builtin; refine wpList_append_E Kboo _ rfl (.tmp 49) (.tmp 51) rfl w1.heap.size _ (boosT (leadB l just fin) i) rfl (ownE_alloc O3.out _) _ [x] rfl (slE_lit _ [x] 1 _ _ _ rfl (by simp) rfl) (by have := HLn.out; have := HN.out; have := HLT.out; simp; omega) (by have := HBB.out.size; have := HI.out.size; simp; omega) ?_; intro v2 w4 ho4 hg4)
          go_roundw
          case rel => exact ⟨i + 1, HLT.out, by go_num, by rw [boosT_succ, ← HE.out]; exact ho4, (belowT HBB.out (belowT HI.out below1)).trans (hg4.own (ownE_alloc O3.out _) (by have := HBB.out.size; have := HI.out.size; simp; omega))⟩
          case measure => simp [intOf]; have := HLT.out; omega
    · obtain rfl : i = n := by omega
      have d0 : decide ((i : Int) < (i : Int)) = false := decide_eq_false (Int.lt_irrefl _)
      clear hlt
      go_wp2_with fail
      go_ret
      exact ⟨_, rfl, ownE_base HO.out A.out.g.size, belowT A.out.g HBB.out⟩
/-- Leads. -/
theorem ref10Leads (s : SlV) (l : List Nd) (just : Nat) (fin : Int) (w : World) (h : SlE Ene w (sv s) l) (hn : l.length ≤ 1000) :
    Calls Try.prog 12 #[.agg (tr ⟨s⟩), .int .u64 (just : Int), .int .i64 fin] w (BoosIs (leadsT l just fin) w) := by
  have hl := sv_lenN h
  obtain ⟨p, n, cp⟩ := s
  dsimp only at hl
  by_cases hm : MayT l
  · rw [leads_yes hm, hl]
    exact ref10Leads_yes p n cp l just fin w h hl hm
  · rw [leads_no hm]
    exact ref10Leads_no p n cp l just fin w h hl (by omega) hm
theorem enters_ref10Leads : ∀ args w, (callFunc 12 args).run Try.prog w = .ok (.enter 12 args) w := entersE Try.func12 (by kernel_rfl) (by kernel_rfl)
end Go.Proofs.Ytanoijcgkacnmaa
