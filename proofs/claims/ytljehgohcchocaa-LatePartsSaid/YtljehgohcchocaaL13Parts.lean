/-
  The law LateParts, walked. (written by wip/gen/law13.py)
-/
import Derived.Test.YtljehgohcchocaaW13
namespace Go.Proofs.Ytljehgohcchocaa
open Go.RowKit
set_option maxRecDepth 100000

set_option maxRecDepth 100000 in
set_option maxHeartbeats 8000000 in
theorem lateParts_n (H : LateC) (q : Option Addr) (n c : Nat) (l : List Aa) (q2 : Option Addr) (n2 c2 : Nat) (k : List Aa) (now : Nat) (w : World) (h : SlE Eaa w (.slice q n c) l) (hl : l.length = n) (h2 : SlE Eaa w (.slice q2 n2 c2) k) (hl2 : k.length = n2) (bnow : now < 18446744073709551616) :
    Calls Try.prog 6 #[.slice q n c, .slice q2 n2 c2, .int .u64 (now : Int)] w fun e w' => e = .returned (.bool true) ∧ Below w.heap.size w w' := by
  have A : Hid (Aw w w (.slice q n c) l) := ⟨h, Below.refl _ _⟩
  have B2 := Lib.hid h2
  have HL := Lib.hid hl
  have HL2 := Lib.hid hl2
  have Bnow := Lib.hid bnow
  have HAw := Lib.hid (fun W => awake_any13 H W)
  have HH := Lib.hid H
  clear H h hl h2 hl2 bnow
  go_enter Try.func6, Try.ntmps6
  go_wp2_with fail
  refine (HAw.out _).mono ?_
  rintro e w1 ⟨rfl, g⟩
  replace A := Lib.hid (A.out.keep g)
  replace B2 := Lib.hid (slE_keep g B2.out)
  clear g
  by_cases h1 : 40 < n
  · have h1i : decide ((40 : Int) < (n : Int)) = true := decide_eq_true (by omega)
    have h1i' : decide (40 < n) = true := decide_eq_true (by omega)
    clear h1
    go_wp2_with fail
    go_ret
    exact ⟨rfl, A.out.g⟩
  have h1i : decide ((40 : Int) < (n : Int)) = false := decide_eq_false (by omega)
  have h1i' : decide (40 < n) = false := decide_eq_false (by omega)
  by_cases h2 : 40 < n2
  · have h2i : decide ((40 : Int) < (n2 : Int)) = true := decide_eq_true (by omega)
    have h2i' : decide (40 < n2) = true := decide_eq_true (by omega)
    clear h2
    go_wp2_with fail
    go_ret
    exact ⟨rfl, A.out.g⟩
  have h2i : decide ((40 : Int) < (n2 : Int)) = false := decide_eq_false (by omega)
  have h2i' : decide (40 < n2) = false := decide_eq_false (by omega)
  have hn : l.length ≤ 40 := by have := HL.out; omega
  have hk : k.length ≤ 40 := by have := HL2.out; omega
  have HA := Lib.hid (fun W (g : SlE Eaa W (.slice q n c) l) => HH.out.due _ l now W Bnow.out g (by omega))
  have HB := Lib.hid (fun W (g : SlE Eaa W (.slice q2 n2 c2) k) => HH.out.due _ k now W Bnow.out g (by omega))
  have hlk : (l ++ k).length ≤ 1000 := by simp; omega
  have HC := Lib.hid (fun v W (g : SlE Eaa W v (l ++ k)) => HH.out.due v _ now W Bnow.out g hlk)
  rw [due_app, rest_app] at HC
  have k1 : (dueL l now).length ≤ 40 := Nat.le_trans due_le hn
  have k2 : (restL l now).length ≤ 40 := Nat.le_trans rest_le hn
  have k3 : (dueL k now).length ≤ 40 := Nat.le_trans due_le hk
  have k4 : (restL k now).length ≤ 40 := Nat.le_trans rest_le hk
  have K1 := Lib.hid k1
  have K2 := Lib.hid k2
  have K3 := Lib.hid k3
  have K4 := Lib.hid k4
  have Kn := Lib.hid hn
  have Kk := Lib.hid hk
  generalize dueL l now = DA at *
  generalize restL l now = RA at *
  generalize dueL k now = DB at *
  generalize restL k now = RB at *
  have HS1 := Lib.hid (fun v u W g1 g2 => ref13Same v u (DA ++ DB) (DA ++ DB) W g1 g2 (by simp; omega))
  have HS2 := Lib.hid (fun v u W g1 g2 => ref13Same v u (RA ++ RB) (RA ++ RB) W g1 g2 (by simp; omega))
  rw [decide_eq_true rfl] at HS1 HS2
  clear h1 h2 hn hk hlk k1 k2 k3 k4
  go_wp2_with fail
  refine (HA.out _ A.out.s).mono ?_
  rintro e w2 ⟨va, vb, rfl, ha, hb, g⟩
  replace A := Lib.hid (A.out.keep g)
  replace B2 := Lib.hid (slE_keep g B2.out)
  have Sa := Lib.hid ha
  have Sb := Lib.hid hb
  clear ha hb
  clear g
  go_wp2_with fail
  refine (HB.out _ B2.out).mono ?_
  rintro e w3 ⟨vc, vd, rfl, hc, hd, g⟩
  replace A := Lib.hid (A.out.keep g)
  replace B2 := Lib.hid (slE_keep g B2.out)
  replace Sa := Lib.hid (slE_keep g Sa.out)
  replace Sb := Lib.hid (slE_keep g Sb.out)
  have Sc := Lib.hid hc
  have Sd := Lib.hid hd
  clear hc hd
  clear g
  go_wp2_with (at_builtin; first | (refine wpList_append_E Kaa _ rfl (.const (.slice none 0 0)) (.tmp 43) rfl w3.heap.size _ [] rfl (ownE_nil _ _ _) _ l rfl A.out.s (by have := Kn.out; simp; omega) (Nat.le_refl _) ?_; intro v5 w5 o5 g5; have O5 := Lib.hid o5; have G5 := Lib.hid g5; clear o5 g5) | (refine wpList_append_E Kaa _ rfl (.tmp 44) (.tmp 45) rfl w3.heap.size _ l rfl O5.out _ k rfl (slE_keep G5.out.nil B2.out) (by have := Kn.out; have := Kk.out; omega) G5.out.nil.size ?_; intro v6 w7 o6 g6; have gg : Below w3.heap.size w3 w7 := G5.out.nil.trans (g6.own O5.out G5.out.nil.size); have Sp := Lib.hid (ownE_slE o6); clear o6 g6 O5 G5))
  replace A := Lib.hid (A.out.keep gg)
  replace B2 := Lib.hid (slE_keep gg B2.out)
  replace Sa := Lib.hid (slE_keep gg Sa.out)
  replace Sb := Lib.hid (slE_keep gg Sb.out)
  replace Sc := Lib.hid (slE_keep gg Sc.out)
  replace Sd := Lib.hid (slE_keep gg Sd.out)
  clear gg
  refine (HC.out _ _ Sp.out).mono ?_
  rintro e w8 ⟨ve, vf, rfl, he, hf, g⟩
  replace A := Lib.hid (A.out.keep g)
  replace B2 := Lib.hid (slE_keep g B2.out)
  replace Sa := Lib.hid (slE_keep g Sa.out)
  replace Sb := Lib.hid (slE_keep g Sb.out)
  replace Sc := Lib.hid (slE_keep g Sc.out)
  replace Sd := Lib.hid (slE_keep g Sd.out)
  replace Sp := Lib.hid (slE_keep g Sp.out)
  have Se := Lib.hid he
  have Sf := Lib.hid hf
  clear he hf g
  clear Sp
  go_wp2_with (at_builtin; first | (refine wpList_append_E Kaa _ rfl (.const (.slice none 0 0)) (.tmp 52) rfl w8.heap.size _ [] rfl (ownE_nil _ _ _) _ DA rfl Sa.out (by have := K1.out; simp; omega) (Nat.le_refl _) ?_; intro v5 w5 o5 g5; have O5 := Lib.hid o5; have G5 := Lib.hid g5; clear o5 g5) | (refine wpList_append_E Kaa _ rfl (.tmp 53) (.tmp 54) rfl w8.heap.size _ DA rfl O5.out _ DB rfl (slE_keep G5.out.nil Sc.out) (by have := K1.out; have := K3.out; omega) G5.out.nil.size ?_; intro v6 w9 o6 g6; have gg : Below w8.heap.size w8 w9 := G5.out.nil.trans (g6.own O5.out G5.out.nil.size); have Sp := Lib.hid (ownE_slE o6); clear o6 g6 O5 G5))
  replace A := Lib.hid (A.out.keep gg)
  replace B2 := Lib.hid (slE_keep gg B2.out)
  replace Sa := Lib.hid (slE_keep gg Sa.out)
  replace Sb := Lib.hid (slE_keep gg Sb.out)
  replace Sc := Lib.hid (slE_keep gg Sc.out)
  replace Sd := Lib.hid (slE_keep gg Sd.out)
  replace Se := Lib.hid (slE_keep gg Se.out)
  replace Sf := Lib.hid (slE_keep gg Sf.out)
  clear gg
  refine (HS1.out _ _ _ Se.out Sp.out).mono ?_
  rintro e w10 ⟨rfl, g⟩
  replace A := Lib.hid (A.out.keep g)
  replace B2 := Lib.hid (slE_keep g B2.out)
  replace Sa := Lib.hid (slE_keep g Sa.out)
  replace Sb := Lib.hid (slE_keep g Sb.out)
  replace Sc := Lib.hid (slE_keep g Sc.out)
  replace Sd := Lib.hid (slE_keep g Sd.out)
  replace Se := Lib.hid (slE_keep g Se.out)
  replace Sf := Lib.hid (slE_keep g Sf.out)
  replace Sp := Lib.hid (slE_keep g Sp.out)
  clear g
  clear Sp
  go_wp2_with (at_builtin; first | (refine wpList_append_E Kaa _ rfl (.const (.slice none 0 0)) (.tmp 58) rfl w10.heap.size _ [] rfl (ownE_nil _ _ _) _ RA rfl Sb.out (by have := K2.out; simp; omega) (Nat.le_refl _) ?_; intro v5 w5 o5 g5; have O5 := Lib.hid o5; have G5 := Lib.hid g5; clear o5 g5) | (refine wpList_append_E Kaa _ rfl (.tmp 59) (.tmp 60) rfl w10.heap.size _ RA rfl O5.out _ RB rfl (slE_keep G5.out.nil Sd.out) (by have := K2.out; have := K4.out; omega) G5.out.nil.size ?_; intro v6 w11 o6 g6; have gg : Below w10.heap.size w10 w11 := G5.out.nil.trans (g6.own O5.out G5.out.nil.size); have Sp := Lib.hid (ownE_slE o6); clear o6 g6 O5 G5))
  replace A := Lib.hid (A.out.keep gg)
  replace B2 := Lib.hid (slE_keep gg B2.out)
  replace Sa := Lib.hid (slE_keep gg Sa.out)
  replace Sb := Lib.hid (slE_keep gg Sb.out)
  replace Sc := Lib.hid (slE_keep gg Sc.out)
  replace Sd := Lib.hid (slE_keep gg Sd.out)
  replace Se := Lib.hid (slE_keep gg Se.out)
  replace Sf := Lib.hid (slE_keep gg Sf.out)
  clear gg
  refine (HS2.out _ _ _ Sf.out Sp.out).mono ?_
  rintro e w12 ⟨rfl, g⟩
  replace A := Lib.hid (A.out.keep g)
  replace B2 := Lib.hid (slE_keep g B2.out)
  replace Sa := Lib.hid (slE_keep g Sa.out)
  replace Sb := Lib.hid (slE_keep g Sb.out)
  replace Sc := Lib.hid (slE_keep g Sc.out)
  replace Sd := Lib.hid (slE_keep g Sd.out)
  replace Se := Lib.hid (slE_keep g Se.out)
  replace Sf := Lib.hid (slE_keep g Sf.out)
  replace Sp := Lib.hid (slE_keep g Sp.out)
  clear g
  go_wp2_with fail
  go_ret
  exact ⟨rfl, A.out.g⟩
/-- The law. -/
theorem latePartsL (H : LateC) (v1 : Value) (l : List Aa) (v2 : Value) (k : List Aa) (now : UInt64) (w : World) (h : SlE Eaa w v1 l) (h2 : SlE Eaa w v2 k) :
    Calls Try.prog 6 #[v1, v2, .int .u64 (now.toNat : Int)] w fun e w' => e = .returned (.bool true) ∧ Below w.heap.size w w' := by
  have k1 := h
  have k2 := h2
  obtain ⟨q, c, rfl, _⟩ := slE_shape h
  obtain ⟨q2, c2, rfl, _⟩ := slE_shape h2
  exact lateParts_n H q _ c l q2 _ c2 k now.toNat w k1 rfl k2 rfl now.toNat_lt
end Go.Proofs.Ytljehgohcchocaa
