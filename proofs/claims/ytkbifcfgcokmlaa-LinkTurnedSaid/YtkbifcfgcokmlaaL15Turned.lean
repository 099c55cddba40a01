/-
  The law LinkTurned, walked. (written by wip/gen/law15.py)
-/
import Derived.Test.YtkbifcfgcokmlaaQ19
import Derived.Deep.Cut
import Derived.Deep.CutRange
import Derived.Deep.RegionLaw
import Derived.OwnWalk
namespace Go.Proofs.Ytkbifcfgcokmlaa
open Go.RowKit
set_option maxRecDepth 100000

set_option maxRecDepth 100000 in
set_option maxHeartbeats 16000000 in
theorem linkTurned_n (H : LinkC)  (pl : Option Addr) (nl cl : Nat) (l : List Lk) (w : World) (hl : SlE Elk w (.slice pl nl cl) l) (ll : l.length = nl) :
    Calls Try.prog 7 #[.slice pl nl cl] w fun e w' => e = .returned (.bool true) ∧ Below w.heap.size w w' := by
  have hB := Below.refl w.heap.size w
  have A0 : Hid (Below w.heap.size w w) := hB
  have Kl := Lib.hid hl
  have Ll := Lib.hid ll
  have HAw := Lib.hid (fun W => awake_any15 H W)
  have HH := Lib.hid H
  clear H hB hl ll
  go_enter Try.func7, Try.ntmps7
  go_wp2_with fail
  refine (HAw.out _).mono ?_
  rintro e w1 ⟨rfl, g⟩
  replace A0 := Lib.hid (belowT A0.out g)
  replace Kl := Lib.hid (slE_keep g Kl.out)
  clear g
  by_cases h1 : 40 < nl
  · have h1i : decide ((40 : Int) < (nl : Int)) = true := decide_eq_true (by omega)
    have h1i' : decide (40 < nl) = true := decide_eq_true (by omega)
    clear h1
    go_wp2_with fail
    go_ret
    exact ⟨rfl, A0.out⟩
  have h1i : decide ((40 : Int) < (nl : Int)) = false := decide_eq_false (by omega)
  have h1i' : decide (40 < nl) = false := decide_eq_false (by omega)
  have hl : l.length ≤ 1000 := by have := Ll.out; omega
  have HN : Hid (nl ≤ 40) := by show _ ≤ _; omega
  have HG1 := Lib.hid (fun u W (h : SlE Elk W u l) => HH.out.guilty u l W h hl)
  have HG2 := Lib.hid (fun u W (h : SlE Elk W u l.reverse) => HH.out.guilty u l.reverse W h (by rw [List.length_reverse]; exact hl))
  rw [guilt_turned] at HG2
  have HSub : Hid (guiltT l &&& orM l l.length = guiltT l) := guilt_some l
  have HOr : Hid (∀ q, q < nl → orM l (nl - q) = orM l (nl - (q + 1)) ||| (lkAt l q).mask) := fun q hq => by
    have e : nl - q = (nl - (q + 1)) + 1 := by omega
    rw [e]
    show orM l (nl - (q + 1)) ||| (lkAt l (l.length - 1 - (nl - (q + 1)))).mask = _
    rw [show l.length - 1 - (nl - (q + 1)) = q by have := Ll.out; omega]
  have HRv : Hid (∀ q, q < nl → (l.drop q).reverse = (l.drop (q + 1)).reverse ++ [lkAt l q]) := fun q hq => by
    have hq2 : q < l.length := by have := Ll.out; omega
    rw [List.drop_eq_getElem_cons hq2, List.reverse_cons, lkAt_in hq2]
  have HLn : Hid (∀ q, q ≤ nl → ((l.drop q).reverse).length = nl - q) := fun q hq => by rw [List.length_reverse, List.length_drop, Ll.out]
  clear hl h1
  go_wp2_with fail
  go_loopw [4, 5, 6] (fun bk al i wr => ∃ j : Nat, j ≤ nl ∧ i = .int .i64 (j : Int) ∧ OwnE Elk wr w1.heap.size bk (l.drop j).reverse ∧ al = .int .u64 ((orM l (nl - j)).toNat : Int) ∧ Below w1.heap.size w1 wr) (fun _ _ i _ => (intOf i).toNat)
  case atStart => exact ⟨nl, Nat.le_refl _, rfl, by rw [List.drop_of_length_le (by rw [Ll.out]; exact Nat.le_refl _)]; exact ownE_nil _ _ _, by rw [Nat.sub_self]; rfl, Below.refl _ _⟩
  case round =>
    obtain ⟨j, hj, rfl, ho, rfl, hb⟩ := hrel
    have HB := Lib.hid hb
    have HO := Lib.hid ho
    clear hb ho
    by_cases hz : 0 < j
    · obtain ⟨q, hjq⟩ : ∃ q, j = q + 1 := ⟨j - 1, by omega⟩
      have hq : q < nl := by omega
      have HJQ := Lib.hid hjq
      have HQ := Lib.hid hq
      have c0 : (j : Int) - 1 = (q : Int) := by omega
      have d0 : decide ((0 : Int) < (j : Int)) = true := decide_eq_true (by omega)
      have d0' : decide (0 < j) = true := decide_eq_true hz
      have i0 : (0 : Int) ≤ (q : Int) := by omega
      have i1 : (q : Int) < (nl : Int) := by omega
      obtain ⟨b1, o1, rfl, _, x1⟩ := lks_ptr Kl.out (by have := Ll.out; omega)
      have X1 := Lib.hid x1
      have y1 := lks_ld (keepR HB.out x1) (i := q) (by have := Ll.out; omega)
      have ww : wrap64 (q : Int) = (q : Int) := by unfold wrap64; have := HN.out; omega
      have HE1 := Lib.hid (HRv.out q hq)
      have HE2 := Lib.hid (HOr.out q hq)
      rw [← hjq] at HE1 HE2
      obtain ⟨R, hR⟩ : ∃ R, R = (l.drop j).reverse := ⟨_, rfl⟩
      obtain ⟨m, hm⟩ : ∃ m, m = R.length := ⟨_, rfl⟩
      have HM : Hid (R.length = m ∧ m ≤ 40) := ⟨hm.symm, by rw [hm, hR, HLn.out j hj]; have := HN.out; omega⟩
      rw [← hR] at HO HE1
      obtain ⟨pv, cv, rfl⟩ := ownE_len HO.out hm.symm
      obtain ⟨G, hG⟩ : ∃ G, G = orM l (nl - j) := ⟨_, rfl⟩
      rw [← hG] at HE2
      rw [← hG]
      have a1 := k_or G (lkAt l q).mask
      obtain ⟨V, hV⟩ : ∃ V, V = G ||| (lkAt l q).mask := ⟨_, rfl⟩
      rw [← hV] at HE2 a1
      have ZB : Hid (w1.heap.size ≤ wr.heap.size) := HB.out.size
      have HX : Hid (∀ W, Below w1.heap.size w1 W → W.cell? ⟨b1, o1 + q * 67 + 66, none⟩ = some (.int .u64 ((lkAt l q).mask.toNat : Int))) := fun W g => lks_mask (keepR g X1.out) (by have := Ll.out; have := HQ.out; omega)
      generalize lkAt l q = Lq at *
      clear hz hq x1 hR hm hG hV hjq
      go_wp2_with (at_builtin; refine wpList_append_E Klk _ rfl (.tmp 23) (.tmp 29) rfl w1.heap.size _ R rfl (ownE_alloc HO.out _) _ [Lq] rfl (lk_lit1 _ _ _ rfl) (by have := HM.out; simp; omega) (by have := ZB.out; simp; omega) ?_; intro v2 w2 ho2 hg2; obtain ⟨p2, c2, hv2⟩ := ownE_len ho2 (n := m + 1) (by rw [List.length_append, HM.out.1]; rfl); rw [hv2] at ho2 hg2 ⊢; clear hv2; have O2 := Lib.hid ho2; have G2 : Hid (Below w1.heap.size wr w2) := (Gr.alloc hg2).own HO.out ZB.out; have y2 := HX.out _ (HB.out.trans G2.out))
      go_roundw
      case rel => exact ⟨q, Nat.le_of_lt HQ.out, by go_num, by rw [HE1.out]; exact O2.out, by rw [HE2.out], HB.out.trans G2.out⟩
      case measure =>
        have h1 := HJQ.out
        have h2 : wrap64 (q : Int) = (q : Int) := by unfold wrap64; have := HN.out; have := HQ.out; omega
        rw [h2]
        simp only [intOf, Int.toNat_natCast]
        omega
    · obtain rfl : j = 0 := by omega
      have hb0 : (l.drop 0).reverse = l.reverse := by rw [List.drop_zero]
      rw [hb0] at HO
      have S1 := Lib.hid (ownE_slE HO.out)
      have A1 := Lib.hid (belowT A0.out HB.out)
      have K1 := Lib.hid (slE_keep HB.out Kl.out)
      have a1 := k_and (guiltT l) (orM l nl)
      have e9 : guiltT l &&& orM l nl = guiltT l := by have := HSub.out; rwa [Ll.out] at this
      rw [e9] at a1
      rw [Nat.sub_zero]
      generalize (orM l nl).toNat = OT at *
      generalize (guiltT l).toNat = GT at *
      have e1 : ((GT : Int) == (GT : Int)) = true := by simp
      clear hz hb0 e9 A0 Kl
      go_wp2_with fail
      refine (HG1.out _ _ K1.out).mono ?_
      rintro e w8 ⟨rfl, g⟩
      replace A1 := Lib.hid (belowT A1.out g)
      replace S1 := Lib.hid (slE_keep g S1.out)
      clear g
      go_wp2_with fail
      refine (HG2.out _ _ S1.out).mono ?_
      rintro e w9 ⟨rfl, g⟩
      replace A1 := Lib.hid (belowT A1.out g)
      clear g
      go_wp2_with fail
      go_ret
      exact ⟨rfl, A1.out⟩
/-- The law. -/
theorem linkTurnedL (H : LinkC)  (vl : Value) (l : List Lk) (w : World) (hl : SlE Elk w vl l) :
    Calls Try.prog 7 #[vl] w fun e w' => e = .returned (.bool true) ∧ Below w.heap.size w w' := by
  have kl := hl
  obtain ⟨pl, cl, rfl, _⟩ := slE_shape hl
  exact linkTurned_n H  pl _ cl l w kl rfl
end Go.Proofs.Ytkbifcfgcokmlaa
