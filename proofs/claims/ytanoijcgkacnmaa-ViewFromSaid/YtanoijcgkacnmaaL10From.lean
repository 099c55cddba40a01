/-
  The law ViewFrom, walked. (written by wip/gen/law10.py)
-/
import Derived.Test.YtanoijcgkacnmaaW10
import Derived.Test.YtanoijcgkacnmaaP06May
import Derived.Test.YtanoijcgkacnmaaGQ
namespace Go.Proofs.Ytanoijcgkacnmaa
open Go.RowKit

set_option maxRecDepth 100000 in
set_option maxHeartbeats 8000000 in
theorem viewFrom_n (HLs : LeadsC) (HLf : LeafC) (HFr : FromC) (p : Option Addr) (n cp : Nat) (l : List Nd) (r : Rt) (f : Int) (w : World) (h : SlE Ene w (.slice p n cp) l) (hl : l.length = n)  :
    Calls Try.prog 6 #[.agg (tr ⟨⟨p, n, cp⟩⟩), .agg (rc r), .int .i64 f] w fun e w' => e = .returned (.bool true) ∧ Below w.heap.size w w' := by
  obtain ⟨W0, hW0⟩ : ∃ W0, W0 = (w.alloc (.cells (tr ⟨⟨p, n, cp⟩⟩) 24)).alloc (.cells (rc r) 27) := ⟨_, rfl⟩
  have A : Hid (Tw w W0 w.heap.size ⟨p, n, cp⟩ l) := by rw [hW0]; exact (tw_one h).keep below1
  have R0 : Hid (ldA W0 (.pointer (some ⟨w.heap.size + 1, 0, none⟩)) 32 = some (rc r)) := by
    rw [hW0]
    have := ldA_block (heap_alloc_last (w.alloc (.cells (tr ⟨⟨p, n, cp⟩⟩) 24)) (.cells (rc r) 27 (0, 0))) (rc_size r)
    show ldA _ _ _ = _
    simpa using this
  have HW := Lib.hid hW0
  have HL := Lib.hid hl
  have HAw := Lib.hid (fun W => awake_any10 HLs HLf HFr W)
  have HLs := Lib.hid HLs
  have HLf := Lib.hid HLf
  have HFr := Lib.hid HFr
  clear hW0 h hl
  have HMay := Lib.hid (fun W (g : SlE Ene W (.slice p n cp) l) => treeMay ⟨p, n, cp⟩ l W g)
  go_enter Try.func6, Try.ntmps6
  go_wp2_with fail
  rw [← HW.out]
  refine (HAw.out _).mono ?_
  rintro e w1 ⟨rfl, g⟩
  replace A := Lib.hid (A.out.keep g)
  replace R0 := Lib.hid (keep g R0.out)
  clear g
  have z1 := A.out.z1
  have z0 := A.out.z0
  rw [sv_mk] at z0
  have zr := R0.out
  go_wp2_with fail
  refine (HMay.out _ A.out.s).mono ?_
  rintro e w2 ⟨rfl, g⟩
  replace A := Lib.hid (A.out.keep g)
  replace R0 := Lib.hid (keep g R0.out)
  clear g
  replace z1 := A.out.z1
  replace z0 := A.out.z0
  rw [sv_mk] at z0
  replace zr := R0.out
  clear HMay
  by_cases hm : MayT l
  case neg =>
    rw [decide_eq_false hm]
    clear hm
    go_wp2_with fail
    go_ret
    exact ⟨rfl, A.out.g⟩
  rw [decide_eq_true hm]
  have HN : Hid (n ≤ 12) := by show n ≤ 12; have := hm.le; have := HL.out; omega
  have HM := Lib.hid hm
  clear hm
  have HF := Lib.hid (fun W (g : SlE Ene W (.slice p n cp) l) => HFr.out ⟨p, n, cp⟩ l r f W g)
  by_cases hf : isT l f = true
  case neg =>
    have hf' : isT l f = false := by simpa using hf
    have HX : Hid (f < 0 ∨ (n : Int) ≤ f) := by
      show _ ∨ _
      have : ¬ (0 ≤ f ∧ f < l.length) := fun e => hf (isT_iff.2 ⟨HM.out, e.1, e.2⟩)
      have := HL.out
      omega
    rw [show fromT l r f = -1 by unfold fromT; rw [if_neg (by rw [hf']; exact Bool.false_ne_true)]] at HF
    clear hf hf'
    go_wp2_with fail
    refine (HF.out _ A.out.s).mono ?_
    rintro e w3 ⟨rfl, g⟩
    replace A := Lib.hid (A.out.keep g)
    replace R0 := Lib.hid (keep g R0.out)
    clear g
    replace z1 := A.out.z1
    replace z0 := A.out.z0
    rw [sv_mk] at z0
    replace zr := R0.out
    by_cases h0 : f < 0
    · have t0 : decide (f < 0) = true := decide_eq_true h0
      clear h0
      go_wp2_with fail
      go_ret
      exact ⟨rfl, A.out.g⟩
    · have t0 : decide (f < 0) = false := decide_eq_false h0
      have t1 : decide ((n : Int) ≤ f) = true := decide_eq_true (by have := HX.out; omega)
      clear h0
      go_wp2_with fail
      go_ret
      exact ⟨rfl, A.out.g⟩
  obtain ⟨_, hf0, hf1⟩ := isT_iff.1 hf
  obtain ⟨f, rfl⟩ : ∃ f' : Nat, f = f' := ⟨f.toNat, by omega⟩
  have hfl : f < l.length := by omega
  have t0 : decide ((f : Int) < 0) = false := decide_eq_false (by omega)
  have t1 : decide ((n : Int) ≤ (f : Int)) = false := decide_eq_false (by have := HL.out; omega)
  have t1' : decide (n ≤ f) = false := decide_eq_false (by have := HL.out; omega)
  have HFd := Lib.hid (fun W (g : SlE Ene W (.slice p n cp) l) => treeFind ⟨p, n, cp⟩ l r W g)
  have HAk := Lib.hid (fun W (g : SlE Ene W (.slice p n cp) l) => treeAbove ⟨p, n, cp⟩ l (f : Int) (findT l r) W g)
  have HAi := Lib.hid (fun W (g : SlE Ene W (.slice p n cp) l) => treeAbove ⟨p, n, cp⟩ l (f : Int) (fromT l r (f : Int)) W g)
  have hfrom : fromT l r (f : Int) = if aboveZ l (f : Int) (findT l r) = true then findT l r else (f : Int) := by unfold fromT; rw [if_pos hf]
  have hab : aboveZ l (f : Int) (fromT l r (f : Int)) = true := by
    rw [hfrom]
    split
    · assumption
    · rw [aboveZ_nat HM.out hfl hfl]; exact above_refl HM.out hfl
  rw [hab] at HAi
  rw [hfrom] at HF HAi
  generalize findT l r = k at *
  obtain ⟨b, hb⟩ : ∃ b, b = aboveZ l (f : Int) k := ⟨_, rfl⟩
  rw [← hb] at HF HAi HAk
  clear hfrom hab hf hf0 hf1 hfl hb
  cases b
  · rw [if_neg Bool.false_ne_true] at HF HAi
    go_wp2_with fail
    refine (HF.out _ A.out.s).mono ?_
    rintro e w3 ⟨rfl, g⟩
    replace A := Lib.hid (A.out.keep g)
    replace R0 := Lib.hid (keep g R0.out)
    clear g
    replace z1 := A.out.z1
    replace z0 := A.out.z0
    rw [sv_mk] at z0
    replace zr := R0.out
    go_wp2_with fail
    refine (HFd.out _ A.out.s).mono ?_
    rintro e w4 ⟨rfl, g⟩
    replace A := Lib.hid (A.out.keep g)
    replace R0 := Lib.hid (keep g R0.out)
    clear g
    replace z1 := A.out.z1
    replace z0 := A.out.z0
    rw [sv_mk] at z0
    replace zr := R0.out
    go_wp2_with fail
    refine (HAi.out _ A.out.s).mono ?_
    rintro e w5 ⟨rfl, g⟩
    replace A := Lib.hid (A.out.keep g)
    replace R0 := Lib.hid (keep g R0.out)
    clear g
    replace z1 := A.out.z1
    replace z0 := A.out.z0
    rw [sv_mk] at z0
    replace zr := R0.out
    go_wp2_with fail
    refine (HAk.out _ A.out.s).mono ?_
    rintro e w6 ⟨rfl, g⟩
    replace A := Lib.hid (A.out.keep g)
    replace R0 := Lib.hid (keep g R0.out)
    clear g
    replace z1 := A.out.z1
    replace z0 := A.out.z0
    rw [sv_mk] at z0
    replace zr := R0.out
    go_wp2_with fail
    refine (HAk.out _ A.out.s).mono ?_
    rintro e w7 ⟨rfl, g⟩
    replace A := Lib.hid (A.out.keep g)
    replace R0 := Lib.hid (keep g R0.out)
    clear g
    replace z1 := A.out.z1
    replace z0 := A.out.z0
    rw [sv_mk] at z0
    replace zr := R0.out
    go_wp2_with fail
    go_ret
    exact ⟨rfl, A.out.g⟩
  · rw [if_pos rfl] at HF HAi
    go_wp2_with fail
    refine (HF.out _ A.out.s).mono ?_
    rintro e w3 ⟨rfl, g⟩
    replace A := Lib.hid (A.out.keep g)
    replace R0 := Lib.hid (keep g R0.out)
    clear g
    replace z1 := A.out.z1
    replace z0 := A.out.z0
    rw [sv_mk] at z0
    replace zr := R0.out
    go_wp2_with fail
    refine (HFd.out _ A.out.s).mono ?_
    rintro e w4 ⟨rfl, g⟩
    replace A := Lib.hid (A.out.keep g)
    replace R0 := Lib.hid (keep g R0.out)
    clear g
    replace z1 := A.out.z1
    replace z0 := A.out.z0
    rw [sv_mk] at z0
    replace zr := R0.out
    go_wp2_with fail
    refine (HAi.out _ A.out.s).mono ?_
    rintro e w5 ⟨rfl, g⟩
    replace A := Lib.hid (A.out.keep g)
    replace R0 := Lib.hid (keep g R0.out)
    clear g
    replace z1 := A.out.z1
    replace z0 := A.out.z0
    rw [sv_mk] at z0
    replace zr := R0.out
    go_wp2_with fail
    refine (HAk.out _ A.out.s).mono ?_
    rintro e w6 ⟨rfl, g⟩
    replace A := Lib.hid (A.out.keep g)
    replace R0 := Lib.hid (keep g R0.out)
    clear g
    replace z1 := A.out.z1
    replace z0 := A.out.z0
    rw [sv_mk] at z0
    replace zr := R0.out
    go_wp2_with fail
    go_ret
    exact ⟨rfl, A.out.g⟩
/-- The law. -/
theorem viewFromL (HLs : LeadsC) (HLf : LeafC) (HFr : FromC) (s : Tr) (l : List Nd) (r : Rt) (f : Int) (w : World) (h : SlE Ene w (sv s.n) l) :
    Calls Try.prog 6 #[.agg (tr s), .agg (rc r), .int .i64 f] w fun e w' => e = .returned (.bool true) ∧ Below w.heap.size w w' := by
  obtain ⟨s⟩ := s
  have hn := sv_lenN h
  obtain ⟨p, n, cp⟩ := s
  exact viewFrom_n HLs HLf HFr p n cp l r f w h hn
end Go.Proofs.Ytanoijcgkacnmaa
