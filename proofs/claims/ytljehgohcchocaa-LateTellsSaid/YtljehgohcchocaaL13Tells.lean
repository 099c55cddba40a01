/-
  The law LateTells, walked. (written by wip/gen/law13.py)
-/
import Derived.Test.YtljehgohcchocaaW13
namespace Go.Proofs.Ytljehgohcchocaa
open Go.RowKit
set_option maxRecDepth 100000

set_option maxRecDepth 100000 in
set_option maxHeartbeats 8000000 in
theorem lateTells_n (H : LateC) (q : Option Addr) (n c : Nat) (l : List Aa) (q2 : Option Addr) (n2 c2 : Nat) (k : List Aa) (x : Aa) (now : Nat) (w : World) (h : SlE Eaa w (.slice q n c) l) (hl : l.length = n) (h2 : SlE Eaa w (.slice q2 n2 c2) k) (hl2 : k.length = n2) (bnow : now < 18446744073709551616) :
    Calls Try.prog 3 #[.slice q n c, .slice q2 n2 c2, .agg (aa x), .int .u64 (now : Int)] w fun e w' => e = .returned (.bool true) ∧ Below w.heap.size w w' := by
  obtain ⟨W0, hW0⟩ : ∃ W0, W0 = w.alloc (.cells (aa x) 29) := ⟨_, rfl⟩
  have A : Hid (Aw w W0 (.slice q n c) l) := by rw [hW0]; exact ⟨slE_keep below1 h, below1⟩
  have M : Hid (W0.heap[w.heap.size]? = some (.cells (aa x) 29 (0, 0))) := by rw [hW0]; exact heap_alloc_last w _
  have HW := Lib.hid hW0
  have B2 : Hid (SlE Eaa W0 (.slice q2 n2 c2) k) := by rw [hW0]; exact slE_keep below1 h2
  clear hW0
  have HL := Lib.hid hl
  have HL2 := Lib.hid hl2
  have Bnow := Lib.hid bnow
  have HAw := Lib.hid (fun W => awake_any13 H W)
  have HH := Lib.hid H
  clear H h hl h2 hl2 bnow
  go_enter Try.func3, Try.ntmps3
  go_wp2_with fail
  rw [← HW.out]
  refine (HAw.out _).mono ?_
  rintro e w1 ⟨rfl, g⟩
  replace A := Lib.hid (A.out.keep g)
  replace M := Lib.hid (blk_keep g M.out)
  replace B2 := Lib.hid (slE_keep g B2.out)
  clear g
  by_cases h1 : 60 < n
  · have h1i : decide ((60 : Int) < (n : Int)) = true := decide_eq_true (by omega)
    have h1i' : decide (60 < n) = true := decide_eq_true (by omega)
    clear h1
    go_wp2_with fail
    go_ret
    exact ⟨rfl, A.out.g⟩
  have h1i : decide ((60 : Int) < (n : Int)) = false := decide_eq_false (by omega)
  have h1i' : decide (60 < n) = false := decide_eq_false (by omega)
  by_cases h2 : 60 < n2
  · have h2i : decide ((60 : Int) < (n2 : Int)) = true := decide_eq_true (by omega)
    have h2i' : decide (60 < n2) = true := decide_eq_true (by omega)
    clear h2
    go_wp2_with fail
    go_ret
    exact ⟨rfl, A.out.g⟩
  have h2i : decide ((60 : Int) < (n2 : Int)) = false := decide_eq_false (by omega)
  have h2i' : decide (60 < n2) = false := decide_eq_false (by omega)
  have hn : l.length ≤ 1000 := by have := HL.out; omega
  have HP1 := Lib.hid (fun W (g : SlE Eaa W (.slice q n c) l) => HH.out.put _ l x W g hn)
  have HP2 := Lib.hid (fun W (g : SlE Eaa W (.slice q n c) l) => ref13Put _ l x W g hn)
  have HD1 := Lib.hid (fun W (g : SlE Eaa W (.slice q n c) l) => HH.out.due _ l now W Bnow.out g hn)
  have HD2 := Lib.hid (fun W (g : SlE Eaa W (.slice q n c) l) => ref13Due _ l now W g hn)
  have HN1 := Lib.hid (fun W (g : SlE Eaa W (.slice q n c) l) => HH.out.next _ l W g hn)
  have HN2 := Lib.hid (fun W (g : SlE Eaa W (.slice q n c) l) => ref13Next _ l W g hn)
  have HM1 := Lib.hid (fun W (g : SlE Eaa W (.slice q n c) l) => HH.out.may _ l W g)
  have HM2 := Lib.hid (fun W (g : SlE Eaa W (.slice q n c) l) => ref13May _ l W g hn)
  have HS1 := Lib.hid (fun W (g : SlE Eaa W (.slice q n c) l) (g2 : SlE Eaa W (.slice q2 n2 c2) k) => HH.out.same _ _ l k W g g2 hn)
  have HS2 := Lib.hid (fun W (g : SlE Eaa W (.slice q n c) l) (g2 : SlE Eaa W (.slice q2 n2 c2) k) => ref13Same _ _ l k W g g2 hn)
  have K1 : Hid ((putA l x).length ≤ 1000) := by show _ ≤ _; have := HL.out; unfold putA; split; (split <;> simp <;> omega); omega
  have K2 : Hid ((dueL l now).length ≤ 1000) := Lib.hid (Nat.le_trans due_le hn)
  have K3 : Hid ((restL l now).length ≤ 1000) := Lib.hid (Nat.le_trans rest_le hn)
  generalize putA l x = PA at *
  generalize putE l x = PE at *
  generalize dueL l now = DA at *
  generalize restL l now = RA at *
  generalize nextN l = N1 at *
  generalize someA l = N2 at *
  generalize mayA l = M1 at *
  obtain ⟨sm, hsm⟩ : ∃ sm, sm = decide (l = k) := ⟨_, rfl⟩
  rw [← hsm] at HS1 HS2
  clear hsm hn h1 h2
  have zx := ldA_block M.out (aa_size x)
  go_wp2_with fail
  refine (HP1.out _ A.out.s).mono ?_
  rintro e w2 ⟨va, rfl, ha, g⟩
  replace A := Lib.hid (A.out.keep g)
  replace M := Lib.hid (blk_keep g M.out)
  replace B2 := Lib.hid (slE_keep g B2.out)
  have Sa := Lib.hid ha
  clear ha
  clear g
  replace zx := ldA_block M.out (aa_size x)
  go_wp2_with fail
  refine (HP2.out _ A.out.s).mono ?_
  rintro e w3 ⟨vb, rfl, hb, g⟩
  replace A := Lib.hid (A.out.keep g)
  replace M := Lib.hid (blk_keep g M.out)
  replace B2 := Lib.hid (slE_keep g B2.out)
  replace Sa := Lib.hid (slE_keep g Sa.out)
  have Sb := Lib.hid hb
  clear hb
  clear g
  clear zx
  go_wp2_with fail
  refine (HD1.out _ A.out.s).mono ?_
  rintro e w4 ⟨vc, vd, rfl, hc, hd, g⟩
  replace A := Lib.hid (A.out.keep g)
  replace M := Lib.hid (blk_keep g M.out)
  replace B2 := Lib.hid (slE_keep g B2.out)
  replace Sa := Lib.hid (slE_keep g Sa.out)
  replace Sb := Lib.hid (slE_keep g Sb.out)
  have Sc := Lib.hid hc
  have Sd := Lib.hid hd
  clear hc hd
  clear g
  go_wp2_with fail
  refine (HD2.out _ A.out.s).mono ?_
  rintro e w5 ⟨ve, vf, rfl, he, hf, g⟩
  replace A := Lib.hid (A.out.keep g)
  replace M := Lib.hid (blk_keep g M.out)
  replace B2 := Lib.hid (slE_keep g B2.out)
  replace Sa := Lib.hid (slE_keep g Sa.out)
  replace Sb := Lib.hid (slE_keep g Sb.out)
  replace Sc := Lib.hid (slE_keep g Sc.out)
  replace Sd := Lib.hid (slE_keep g Sd.out)
  have Se := Lib.hid he
  have Sf := Lib.hid hf
  clear he hf
  clear g
  go_wp2_with fail
  refine (HN1.out _ A.out.s).mono ?_
  rintro e w6 ⟨rfl, g⟩
  replace A := Lib.hid (A.out.keep g)
  replace M := Lib.hid (blk_keep g M.out)
  replace B2 := Lib.hid (slE_keep g B2.out)
  replace Sa := Lib.hid (slE_keep g Sa.out)
  replace Sb := Lib.hid (slE_keep g Sb.out)
  replace Sc := Lib.hid (slE_keep g Sc.out)
  replace Sd := Lib.hid (slE_keep g Sd.out)
  replace Se := Lib.hid (slE_keep g Se.out)
  replace Sf := Lib.hid (slE_keep g Sf.out)
  clear g
  go_wp2_with fail
  refine (HN2.out _ A.out.s).mono ?_
  rintro e w7 ⟨rfl, g⟩
  replace A := Lib.hid (A.out.keep g)
  replace M := Lib.hid (blk_keep g M.out)
  replace B2 := Lib.hid (slE_keep g B2.out)
  replace Sa := Lib.hid (slE_keep g Sa.out)
  replace Sb := Lib.hid (slE_keep g Sb.out)
  replace Sc := Lib.hid (slE_keep g Sc.out)
  replace Sd := Lib.hid (slE_keep g Sd.out)
  replace Se := Lib.hid (slE_keep g Se.out)
  replace Sf := Lib.hid (slE_keep g Sf.out)
  clear g
  have hsa := fun W g1 g2 => ref13Same va vb PA PA W g1 g2 K1.out
  rw [decide_eq_true rfl] at hsa
  have Hsa := Lib.hid hsa
  clear hsa
  go_wp2_with fail
  refine (Hsa.out _ Sa.out Sb.out).mono ?_
  rintro e w8 ⟨rfl, g⟩
  replace A := Lib.hid (A.out.keep g)
  replace M := Lib.hid (blk_keep g M.out)
  replace B2 := Lib.hid (slE_keep g B2.out)
  replace Sa := Lib.hid (slE_keep g Sa.out)
  replace Sb := Lib.hid (slE_keep g Sb.out)
  replace Sc := Lib.hid (slE_keep g Sc.out)
  replace Sd := Lib.hid (slE_keep g Sd.out)
  replace Se := Lib.hid (slE_keep g Se.out)
  replace Sf := Lib.hid (slE_keep g Sf.out)
  clear g
  clear Sa Sb
  have hsc := fun W g1 g2 => ref13Same vc ve DA DA W g1 g2 K2.out
  rw [decide_eq_true rfl] at hsc
  have Hsc := Lib.hid hsc
  clear hsc
  go_wp2_with fail
  refine (Hsc.out _ Sc.out Se.out).mono ?_
  rintro e w9 ⟨rfl, g⟩
  replace A := Lib.hid (A.out.keep g)
  replace M := Lib.hid (blk_keep g M.out)
  replace B2 := Lib.hid (slE_keep g B2.out)
  replace Sc := Lib.hid (slE_keep g Sc.out)
  replace Sd := Lib.hid (slE_keep g Sd.out)
  replace Se := Lib.hid (slE_keep g Se.out)
  replace Sf := Lib.hid (slE_keep g Sf.out)
  clear g
  clear Sc Se
  have hsd := fun W g1 g2 => ref13Same vd vf RA RA W g1 g2 K3.out
  rw [decide_eq_true rfl] at hsd
  have Hsd := Lib.hid hsd
  clear hsd
  go_wp2_with fail
  refine (Hsd.out _ Sd.out Sf.out).mono ?_
  rintro e w10 ⟨rfl, g⟩
  replace A := Lib.hid (A.out.keep g)
  replace M := Lib.hid (blk_keep g M.out)
  replace B2 := Lib.hid (slE_keep g B2.out)
  replace Sd := Lib.hid (slE_keep g Sd.out)
  replace Sf := Lib.hid (slE_keep g Sf.out)
  clear g
  clear Sd Sf
  go_wp2_with fail
  refine (HM2.out _ A.out.s).mono ?_
  rintro e w11 ⟨rfl, g⟩
  replace A := Lib.hid (A.out.keep g)
  replace M := Lib.hid (blk_keep g M.out)
  replace B2 := Lib.hid (slE_keep g B2.out)
  clear g
  go_wp2_with fail
  refine (HS2.out _ A.out.s B2.out).mono ?_
  rintro e w12 ⟨rfl, g⟩
  replace A := Lib.hid (A.out.keep g)
  replace M := Lib.hid (blk_keep g M.out)
  replace B2 := Lib.hid (slE_keep g B2.out)
  clear g
  go_wp2_with fail
  refine (HM1.out _ A.out.s).mono ?_
  rintro e w13 ⟨rfl, g⟩
  replace A := Lib.hid (A.out.keep g)
  replace M := Lib.hid (blk_keep g M.out)
  replace B2 := Lib.hid (slE_keep g B2.out)
  clear g
  go_wp2_with fail
  refine (HS1.out _ A.out.s B2.out).mono ?_
  rintro e w14 ⟨rfl, g⟩
  replace A := Lib.hid (A.out.keep g)
  replace M := Lib.hid (blk_keep g M.out)
  replace B2 := Lib.hid (slE_keep g B2.out)
  clear g
  go_wp2_with fail
  go_ret
  exact ⟨rfl, A.out.g⟩
/-- The law. -/
theorem lateTellsL (H : LateC) (v1 : Value) (l : List Aa) (v2 : Value) (k : List Aa) (x : Aa) (now : UInt64) (w : World) (h : SlE Eaa w v1 l) (h2 : SlE Eaa w v2 k) :
    Calls Try.prog 3 #[v1, v2, .agg (aa x), .int .u64 (now.toNat : Int)] w fun e w' => e = .returned (.bool true) ∧ Below w.heap.size w w' := by
  have k1 := h
  have k2 := h2
  obtain ⟨q, c, rfl, _⟩ := slE_shape h
  obtain ⟨q2, c2, rfl, _⟩ := slE_shape h2
  exact lateTells_n H q _ c l q2 _ c2 k x now.toNat w k1 rfl k2 rfl now.toNat_lt
end Go.Proofs.Ytljehgohcchocaa
