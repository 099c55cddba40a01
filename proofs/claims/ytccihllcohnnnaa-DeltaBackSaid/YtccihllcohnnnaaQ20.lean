/-
  The document's balances: May, walked.
  Lists of numbers of 64 bits beside trees.
  What votes weigh: do they fit? the document's own, walked.
  An append onto a row of the call's own as one step of a region that draws its order, walked in the text's order (XLex); reads below a block's number; for every program.
-/
import Derived.Test.YtccihllcohnnnaaQ19
import Derived.Test.YtccihllcohnnnaaQ16
import Derived.Test.YtccihllcohnnnaaQ06
import Derived.Test.YtccihllcohnnnaaQ17
import Derived.Test.YtccihllcohnnnaaQ13
import Derived.Test.YtccihllcohnnnaaQ18
import Derived.Test.YtccihllcohnnnaaQ08
import Derived.Test.YtccihllcohnnnaaQ07
namespace Go.Proofs.Ytccihllcohnnnaa
open Go.RowKit
set_option maxRecDepth 100000

set_option maxRecDepth 100000 in
set_option maxHeartbeats 1000000 in
theorem ref11May_n (p : Option Addr) (n cp : Nat) (l : List UInt64) (w : World) (h : SlE Enum w (.slice p n cp) l) (hl : l.length = n) (hn : n ≤ 1152921504606846976) :
    Calls Try.prog 46 #[.slice p n cp] w fun e w' => e = .returned (.bool (mayB l)) ∧ Below w.heap.size w w' := by
  have HS := Lib.hid h
  have HL := Lib.hid hl
  have HN := Lib.hid hn
  obtain ⟨r, hr⟩ : ∃ r, r = mayB l := ⟨_, rfl⟩
  rw [← hr]
  have HR := Lib.hid hr
  clear h hl hn hr
  go_enter Try.func46, Try.ntmps46
  go_wp2_with fail
  go_loopw [3] (fun i wr => ∃ j : Nat, j ≤ n ∧ i = .int .i64 (j : Int) ∧ (∀ x, x < j → fn l x ≤ 1099511627776) ∧ wr = w) (fun i _ => n - (intOf i).toNat)
  case atStart => exact ⟨0, Nat.zero_le _, rfl, fun x hx => absurd hx (Nat.not_lt_zero _), rfl⟩
  case round =>
    obtain ⟨j, hj, rfl, hx, rfl⟩ := hrel
    have HX := Lib.hid hx
    clear hx
    by_cases hlt : j < n
    · have i0 : (0 : Int) ≤ (j : Int) := by omega
      have i1 : (j : Int) < (n : Int) := by omega
      have u1 : (j : Int) + 1 < 1152921504606846980 := by have := HN.out; omega
      obtain ⟨b1, o1, rfl, q1, x1⟩ := nums_ptr HS.out (by have := HL.out; omega)
      have y1 := nums_cell x1 (i := j) (by have := HL.out; omega)
      have HLT := Lib.hid hlt
      obtain ⟨y, hy⟩ : ∃ y, y = fn l j := ⟨_, rfl⟩
      rw [← hy] at y1
      have HY := Lib.hid hy
      clear x1 q1 hlt hy
      by_cases hb : 1099511627776 < y
      · have t0 : decide ((1099511627776 : Int) < (y : Int)) = true := decide_eq_true (by omega)
        have t0' : decide (1099511627776 < y) = true := decide_eq_true hb
        have hF : Hid (r = false) := by show r = false; rw [HR.out, ← Bool.not_eq_true]; intro e; have := (mayB_iff.1 e).2.2 j (by rw [HL.out]; exact HLT.out); rw [← HY.out] at this; omega
        clear hb
        go_wp2_with fail
        go_ret
        exact ⟨by rw [hF.out]; first | done | rfl, Below.refl _ _⟩
      · have t0 : decide ((1099511627776 : Int) < (y : Int)) = false := decide_eq_false (by omega)
        have t0' : decide (1099511627776 < y) = false := decide_eq_false hb
        have HB : Hid (y ≤ 1099511627776) := by show _ ≤ _; omega
        clear hb
        go_wp2_with fail
        go_roundw
        case rel => exact ⟨j + 1, HLT.out, by go_num, (fun x hx => by
          rcases Nat.lt_succ_iff_lt_or_eq.1 hx with h | rfl
          · exact HX.out x h
          · rw [← HY.out]; exact HB.out), by first | rfl | trivial⟩
        case measure => simp [intOf]; have := HLT.out; omega
    · obtain rfl : j = n := by omega
      clear hlt
      by_cases h1 : 1 ≤ j
      · have t1 : decide ((1 : Int) ≤ (j : Int)) = true := decide_eq_true (by omega)
        have t1' : decide (1 ≤ j) = true := decide_eq_true h1
        by_cases h8 : j ≤ 8
        · have t2 : decide ((j : Int) ≤ 8) = true := decide_eq_true (by omega)
          have t2' : decide (j ≤ 8) = true := decide_eq_true h8
          have hF : Hid (r = true) := by show r = true; rw [HR.out]; exact mayB_iff.2 ⟨by rw [HL.out]; exact h1, by rw [HL.out]; exact h8, fun i hi => HX.out i (by rw [← HL.out]; exact hi)⟩
          clear h1 h8
          go_wp2_with fail
          go_ret
          exact ⟨by rw [hF.out]; first | done | rfl, Below.refl _ _⟩
        · have t2 : decide ((j : Int) ≤ 8) = false := decide_eq_false (by omega)
          have t2' : decide (j ≤ 8) = false := decide_eq_false h8
          have hF : Hid (r = false) := by show r = false; rw [HR.out, ← Bool.not_eq_true]; intro e; have := (mayB_iff.1 e).2.1; rw [HL.out] at this; omega
          clear h1 h8
          go_wp2_with fail
          go_ret
          exact ⟨by rw [hF.out]; first | done | rfl, Below.refl _ _⟩
      · have t1 : decide ((1 : Int) ≤ (j : Int)) = false := decide_eq_false (by omega)
        have t1' : decide (1 ≤ j) = false := decide_eq_false h1
        have hF : Hid (r = false) := by show r = false; rw [HR.out, ← Bool.not_eq_true]; intro e; have := (mayB_iff.1 e).1; rw [HL.out] at this; omega
        clear h1
        go_wp2_with fail
        go_ret
        exact ⟨by rw [hF.out]; first | done | rfl, Below.refl _ _⟩
theorem ref11May (v : Value) (l : List UInt64) (w : World) (h : SlE Enum w v l) (hn : l.length ≤ 1152921504606846976) :
    Calls Try.prog 46 #[v] w fun e w' => e = .returned (.bool (mayB l)) ∧ Below w.heap.size w w' := by
  have k := h
  obtain ⟨p, cp, rfl, _⟩ := slE_shape h
  exact ref11May_n p _ cp l w k rfl hn
theorem enters_ref11May : ∀ args w, (callFunc 46 args).run Try.prog w = .ok (.enter 46 args) w := entersE Try.func46 (by kernel_rfl) (by kernel_rfl)

end Go.Proofs.Ytccihllcohnnnaa
namespace Go.Proofs.Ytccihllcohnnnaa
set_option maxRecDepth 100000
end Go.Proofs.Ytccihllcohnnnaa
namespace Go.Proofs.Ytccihllcohnnnaa
open Go.RowKit
set_option maxRecDepth 100000

set_option maxRecDepth 100000 in
set_option maxHeartbeats 16000000 in
theorem ref14Fit_n (p q r : Option Addr) (n cp m cq k cr : Nat) (l : List Nd) (v : Vt) (bal : List UInt64) (w : World) (h : SlE Ene w (.slice p n cp) l) (h1 : SlE Elt w (.slice q m cq) v.l) (h2 : SlE Enum w (.slice r k cr) bal) (hl : l.length = n) (hv : v.l.length = m) (hb : bal.length = k) (hn : n ≤ 1000) (hm : m ≤ 1000) (hk : k ≤ 1000) :
    Calls Try.prog 25 #[.agg (tr ⟨⟨p, n, cp⟩⟩), .agg (vo ⟨⟨q, m, cq⟩, v.out⟩), .slice r k cr] w fun e w' => e = .returned (.bool (fitB l v bal)) ∧ Below w.heap.size w w' := by
  have HA := Lib.hid (fun W (g : Below w.heap.size w W) => refMayT ⟨p, n, cp⟩ l W (slE_keep g h) (by omega))
  have HV := Lib.hid (fun W (g : Below w.heap.size w W) => ref12May ⟨q, m, cq⟩ v W (slE_keep g h1) (by omega))
  have HC := Lib.hid (fun W (g : Below w.heap.size w W) => ref11May (.slice r k cr) bal W (slE_keep g h2) (by omega))
  obtain ⟨a, ha⟩ : ∃ a, a = decide (MayT l) := ⟨_, rfl⟩
  obtain ⟨b, hb'⟩ : ∃ b, b = mayV v := ⟨_, rfl⟩
  obtain ⟨c, hc⟩ : ∃ c, c = mayB bal := ⟨_, rfl⟩
  obtain ⟨x, hx⟩ : ∃ x, x = ((m : Int) == (k : Int)) := ⟨_, rfl⟩
  obtain ⟨z, hz⟩ : ∃ z, z = fitB l v bal := ⟨_, rfl⟩
  have HZ : Hid (z = (a && (b && (c && x)))) := by
    show z = _
    rw [hz, ha, hb', hc, hx]
    unfold fitB
    have : decide (v.l.length = bal.length) = ((m : Int) == (k : Int)) := by rw [Bool.eq_iff_iff, decide_eq_true_iff, beq_iff_eq, hv, hb]; omega
    rw [this]
  rw [← hz]
  rw [← ha] at HA
  rw [← hb'] at HV
  rw [← hc] at HC
  have tx : ((m : Int) == (k : Int)) = x := hx.symm
  obtain ⟨W0, hW0⟩ : ∃ W0, W0 = (w.alloc (.cells (tr ⟨⟨p, n, cp⟩⟩) 24)).alloc (.cells (vo ⟨⟨q, m, cq⟩, v.out⟩) 28) := ⟨_, rfl⟩
  obtain ⟨hB, k0, k1, hz0⟩ := heap2 w _ _ _ _ W0 hW0
  have HB := Lib.hid hB
  have HW := Lib.hid hW0
  have K0 := Lib.hid k0
  have K1 := Lib.hid k1
  clear hW0 h h1 h2 hl hv hb hn hm hk hB k0 k1 hz0 ha hb' hc hx hz
  go_enter Try.func25, Try.ntmps25
  have z1 := (tr_cells K0.out).2.1
  have y1 := (vo_cells K1.out).2.2.1
  go_wp2_with fail
  rw [← HW.out]
  clear y1
  go_wp2_with fail
  refine (HA.out W0 HB.out).mono ?_
  rintro e w1 ⟨rfl, g1⟩
  have G1 := Lib.hid (belowT HB.out g1)
  have N1 := Lib.hid (blk_keep g1 K1.out)
  clear g1 z1
  have y1 := (vo_cells N1.out).2.2.1
  go_wp2_with fail
  refine (HV.out w1 G1.out).mono ?_
  rintro e w2 ⟨rfl, g2⟩
  have G2 := Lib.hid (belowT G1.out g2)
  have N2 := Lib.hid (blk_keep g2 N1.out)
  clear g2 y1
  go_wp2_with fail
  refine (HC.out w2 G2.out).mono ?_
  rintro e w3 ⟨rfl, g3⟩
  have G3 := Lib.hid (belowT G2.out g3)
  have N3 := Lib.hid (blk_keep g3 N2.out)
  clear g3
  have y0 := (vo_cells N3.out).1
  dsimp only at y0
  rw [sv_mk] at y0
  cases a
  · have hX : Hid (z = false) := HZ.out
    go_wp2_with fail
    go_ret
    exact ⟨by rw [hX.out]; first | done | rfl, G3.out⟩
  · cases b
    · have hX : Hid (z = false) := HZ.out
      go_wp2_with fail
      go_ret
      exact ⟨by rw [hX.out]; first | done | rfl, G3.out⟩
    · cases c
      · have hX : Hid (z = false) := HZ.out
        go_wp2_with fail
        go_ret
        exact ⟨by rw [hX.out]; first | done | rfl, G3.out⟩
      · have hX : Hid (z = x) := HZ.out
        go_wp2_with fail
        go_ret
        exact ⟨by rw [hX.out]; first | done | rfl, G3.out⟩
theorem enters_ref14Fit : ∀ args w, (callFunc 25 args).run Try.prog w = .ok (.enter 25 args) w := entersE Try.func25 (by kernel_rfl) (by kernel_rfl)
end Go.Proofs.Ytccihllcohnnnaa
namespace Go.Proofs.Ytccihllcohnnnaa
open Go.RowKit
set_option maxRecDepth 100000
section
variable {P : Program} {ops : Array Oper} {E : List Nat} {L : World → World → Prop} {W : World} {Q : Exit → Act → World → Prop} {α : Type} {F : Lie α}
theorem wpXL_appendE {T : TypeId} (K : Known P F T) {k : Nat} {o : Oper} {rest : List Oper} {a : Act} {w : World} {σ : List (Nat × World)} (hE : E.contains k = true) (hgd : o.guard = none) (s x : Operand)
    (ho : o.op = .call { callee := .builtin .append, args := #[s, x], argTypes := #[T, T] })
    (base : Nat) (v : Value) (j : List α) (hs : a.eval s = v) (hown : OwnE F w base v j) (vx : Value) (l : List α) (hx : a.eval x = vx) (hsl : SlE F w vx l)
    (hlen : j.length + l.length ≤ 1000000) (hbase : base ≤ w.heap.size) (hl : ∀ v' w', Gr w v w' v' → L w w')
    (h : ∀ v' w', OwnE F w' base v' (j ++ l) → Gr w v w' v' → wpXL L P ops E W Q (k + 1) rest (a.put o.dst v') w' ((k, w') :: σ)) : wpXL L P ops E W Q k (o :: rest) a w σ := by
  obtain ⟨v', w', hr, h2, h3⟩ := run_append_E K w o.type base v j hown vx l hsl hlen hbase
  refine wpXL_eff hE (by simp [Region.wanted, hgd]) v' w' ?_ (hl v' w' h3) (h v' w' h2 h3)
  unfold execOp
  simp only [ho, resolve, invoke, builtin, Sem.run_bind, Sem.run_pure, Result.andThen_ok, List.map_toArray, List.map_cons, List.map_nil, hs, hx, hr]
end
theorem ldA_wdB' {B : Nat} {W : World} {b o n : Nat} {c : Array Value} (h : ldA W (.pointer (some ⟨b, o, none⟩)) n = some c) (hb : b < B) (p : WdB B W) : ldA p.w (.pointer (some ⟨b, o, none⟩)) n = some c := (ldA_below p.h b o n hb).trans h
theorem cell_wdB' {B : Nat} {W : World} {b o : Nat} {c : Value} (h : W.cell? ⟨b, o, none⟩ = some c) (hb : b < B) (p : WdB B W) : p.w.cell? ⟨b, o, none⟩ = some c := (p.h.cell (p := ⟨b, o, none⟩) hb).trans h
end Go.Proofs.Ytccihllcohnnnaa
