/-
  The law BoxRoom, walked.
-/
import Derived.Test.YtiljgnhnpoackaaBoxM
namespace Go.Proofs.Ytiljgnhnpoackaa
open Go.RowKit

theorem post_len (b : BoxP Nt) (n : Nt) : (postX Nt.ver b n).l.length = b.l.length ∨ (postX Nt.ver b n).l.length = b.l.length + 1 := by
  unfold postX
  split
  · split
    · exact .inl rfl
    · exact .inr (by simp)
  · exact .inl rfl
theorem not_may {b : BoxP Nt} (h : mayX Nt.ver b = false) (n : Nt) : postX Nt.ver b n = b ∧ takeX Nt.ver b = b ∧ takeB Nt.ver b = false ∧ closeB Nt.ver b = false ∧ closeX Nt.ver b = b := by
  have e1 : fitB Nt.ver b n = false := by unfold fitB; rw [h]; rfl
  have e2 : takeB Nt.ver b = false := by unfold takeB; rw [h]; rfl
  have e3 : closeB Nt.ver b = false := by unfold closeB; rw [h]; rfl
  refine ⟨?_, ?_, e2, e3, ?_⟩
  · unfold postX; rw [if_neg (by rw [e1]; exact Bool.false_ne_true)]
  · unfold takeX; rw [if_neg (by rw [e2]; exact Bool.false_ne_true)]
  · unfold closeX; rw [if_neg (by rw [e3]; exact Bool.false_ne_true)]

set_option maxRecDepth 100000 in
set_option maxHeartbeats 2000000 in
theorem boxRoom_many (cap : Int) (p : Option Addr) (nb cp : Nat) (lag closed : Bool) (n : Nt) (w : World) (hn : 60 < nb) :
    Calls Try.prog 6 #[.agg (bx ⟨cap, ⟨p, nb, cp⟩, lag, closed⟩), .agg (nt n)] w fun e w' => e = .returned (.bool true) ∧ Below w.heap.size w w' := by
  have t0 : decide ((60 : Int) < (nb : Int)) = true := by rw [decide_eq_true_iff]; omega
  obtain ⟨W0, hW0⟩ : ∃ W0, W0 = (w.alloc (.cells (bx ⟨cap, ⟨p, nb, cp⟩, lag, closed⟩) 24)).alloc (.cells (nt n) 31) := ⟨_, rfl⟩
  obtain ⟨hB, hM0, _, _⟩ := heap2 w _ _ _ _ W0 hW0
  have HB := Lib.hid hB
  have M0 := Lib.hid hM0
  have HW := Lib.hid hW0
  clear hW0 hB hM0 hn
  go_enter Try.func6, Try.ntmps6
  go_wp2_with fail
  rw [← HW.out]
  refine (awake_any _).mono ?_
  rintro e w1 ⟨rfl, g1⟩
  have B1 := Lib.hid (belowT HB.out g1)
  obtain ⟨_, x1, _, _, _, xl⟩ := bx_cells (blk_keep g1 M0.out)
  dsimp only at x1
  rw [sv_mk] at x1
  clear g1
  go_wp2_with fail
  go_ret
  exact ⟨rfl, B1.out⟩

set_option maxRecDepth 100000 in
set_option maxHeartbeats 2000000 in
theorem boxRoom_few (cap : Int) (p : Option Addr) (nb cp : Nat) (lag closed : Bool) (l : List Nt) (n : Nt) (w : World) (h : SlE Ent w (.slice p nb cp) l) (hl : l.length = nb) (hn : nb ≤ 60) :
    Calls Try.prog 6 #[.agg (bx ⟨cap, ⟨p, nb, cp⟩, lag, closed⟩), .agg (nt n)] w fun e w' => e = .returned (.bool true) ∧ Below w.heap.size w w' := by
  have t0 : decide ((60 : Int) < (nb : Int)) = false := by rw [decide_eq_false_iff_not]; omega
  obtain ⟨P, hP⟩ : ∃ P, P = bp ⟨cap, ⟨p, nb, cp⟩, lag, closed⟩ l := ⟨_, rfl⟩
  obtain ⟨b, hb⟩ : ∃ b : Bx, b = ⟨cap, ⟨p, nb, cp⟩, lag, closed⟩ := ⟨_, rfl⟩
  have h' : SlE Ent w (sv b.l) l := by rw [hb]; exact h
  have hl1 : l.length ≤ 100 := by omega
  rw [← hb] at hP
  have HPo := Lib.hid (fun W (g : Below w.heap.size w W) => post_any b n l W (slE_keep g h') hl1)
  have HTa := Lib.hid (fun W (g : Below w.heap.size w W) => take_any b l W (slE_keep g h') hl1)
  have HMa := Lib.hid (fun W (g : Below w.heap.size w W) => may_any b l W (slE_keep g h'))
  have HCl := Lib.hid (fun W (g : Below w.heap.size w W) => close_any b l W (slE_keep g h') hl1)
  rw [← hP] at HPo HTa HMa HCl
  obtain ⟨r, hr⟩ : ∃ r, r = mayX Nt.ver P := ⟨_, rfl⟩
  obtain ⟨ok, hok⟩ : ∃ ok, ok = takeB Nt.ver P := ⟨_, rfl⟩
  obtain ⟨shut, hshut⟩ : ∃ shut, shut = closeB Nt.ver P := ⟨_, rfl⟩
  rw [← hr] at HMa
  rw [← hok] at HTa
  rw [← hshut] at HCl
  have HR := Lib.hid hr
  have HOK := Lib.hid hok
  have HSH := Lib.hid hshut
  have HP := Lib.hid hP
  have HL := Lib.hid hl
  have HN := Lib.hid hn
  have HS := Lib.hid h'
  obtain ⟨W0, hW0⟩ : ∃ W0, W0 = (w.alloc (.cells (bx b) 24)).alloc (.cells (nt n) 31) := ⟨_, rfl⟩
  obtain ⟨hB, hM0, hM1, _⟩ := heap2 w _ _ _ _ W0 hW0
  have HB := Lib.hid hB
  have M0 := Lib.hid hM0
  have M1 := Lib.hid hM1
  rw [hb] at hW0
  have HW := Lib.hid hW0
  rw [hb] at HPo HTa HMa HCl M0
  have Hb := Lib.hid hb
  clear hW0 hB hM0 hM1 hn h h' hl hl1 hr hok hshut hP hb
  go_enter Try.func6, Try.ntmps6
  go_wp2_with fail
  rw [← HW.out]
  refine (awake_any _).mono ?_
  rintro e w1 ⟨rfl, g1⟩
  have N0 := Lib.hid (blk_keep g1 M0.out)
  have N1 := Lib.hid (blk_keep g1 M1.out)
  have B1 := Lib.hid (belowT HB.out g1)
  obtain ⟨_, x1, _, _, x4, xl⟩ := bx_cells N0.out
  dsimp only at x1
  rw [sv_mk] at x1
  have xn := ldA_block N1.out (nt_size _)
  clear g1
  go_wp2_with fail
  refine (HPo.out _ B1.out).mono ?_
  rintro e w2 ⟨c, lc, rfl, ec, sc, gc⟩
  have gk := belowT gc (below1 (o := .cells (bx c) 24))
  have N2 := Lib.hid (blk_keep gk N0.out)
  have N2' := Lib.hid (blk_keep gc N0.out)
  have C2 := Lib.hid (Vb.new (x := c) sc)
  have B2 := Lib.hid (belowT B1.out gk)
  have EC := Lib.hid ec
  clear x1 x4 xl xn ec sc gc gk
  obtain ⟨_, _, _, _, x4, xl⟩ := bx_cells N2'.out
  go_wp2_with fail
  refine (HTa.out _ B2.out).mono ?_
  rintro e w3 ⟨d, ld, rfl, ed, sd, gd⟩
  have gk := belowT (belowT gd (below1 (o := .cells (bx d) 24))) (below1 (o := .cells (nt (takeN Nt.ver znt P)) 31))
  have N3 := Lib.hid (blk_keep gk N2.out)
  have N3' := Lib.hid (blk_keep gd N2.out)
  have C3 := Lib.hid (C2.out.keep gk)
  have D3 := Lib.hid ((Vb.new (x := d) sd).keep (below1 (o := .cells (nt (takeN Nt.ver znt P)) 31)))
  have B3 := Lib.hid (belowT B2.out gk)
  have ED := Lib.hid ed
  clear x4 xl ed sd gd gk
  obtain ⟨_, _, _, _, x4, xl⟩ := bx_cells N3'.out
  go_wp2_with fail
  refine (HMa.out _ B3.out).mono ?_
  rintro e w4 ⟨rfl, g4⟩
  have N4 := Lib.hid (blk_keep g4 N3.out)
  have C4 := Lib.hid (C3.out.keep g4)
  have D4 := Lib.hid (D3.out.keep g4)
  have B4 := Lib.hid (belowT B3.out g4)
  clear g4 x4 xl
  obtain ⟨_, x1, _, _, x4, xl⟩ := bx_cells N4.out
  dsimp only at x1
  rw [sv_mk] at x1
  have c4 := ldA_block C4.out.m (bx_size _)
  have cl := C4.out.lt
  have d4 := ldA_block D4.out.m (bx_size _)
  have dl := D4.out.lt
  cases r with
  | false =>
    obtain ⟨f1, f2, f3, f4, _⟩ := not_may HR.out.symm n
    have hok := HOK.out
    rw [f3] at hok
    have hsh := HSH.out
    rw [f4] at hsh
    subst hok hsh
    have EC' := Lib.hid (EC.out.trans f1)
    have ED' := Lib.hid (ED.out.trans f2)
    have HLc : Hid (lc.length ≤ 1000) := by
      have : lc = l := congrArg BoxP.l (EC'.out.trans HP.out)
      show _ ≤ _
      rw [this, HL.out]; have := HN.out; omega
    have HLd : Hid (ld.length ≤ 1000) := by
      have : ld = l := congrArg BoxP.l (ED'.out.trans HP.out)
      show _ ≤ _
      rw [this, HL.out]; have := HN.out; omega
    clear f1 f2 f3 f4
    go_wp2_with fail
    refine (HCl.out _ B4.out).mono ?_
    rintro e w5 ⟨s, ls, rfl, es, ss, gs⟩
    have gk := belowT gs (below1 (o := .cells (bx s) 24))
    have N5 := Lib.hid (blk_keep gs N4.out)
    have C5 := Lib.hid (C4.out.keep gs)
    have D5 := Lib.hid (D4.out.keep gs)
    have B5 := Lib.hid (belowT B4.out gk)
    have G1 := Lib.hid (below1 (w := w5) (o := .cells (bx s) 24))
    clear es ss gs gk x1 x4 xl c4 cl d4 dl
    obtain ⟨_, x1, _, _, x4, xl⟩ := bx_cells N5.out
    have c4 := ldA_block C5.out.m (bx_size _)
    have cl := C5.out.lt
    go_wp2_with fail
    refine (same_is c ⟨cap, ⟨p, nb, cp⟩, lag, closed⟩ lc l _ (slE_keep G1.out C5.out.s) (by have := slE_keep B5.out HS.out; rw [Hb.out] at this; exact this) HLc.out (by rw [EC'.out, HP.out, Hb.out])).mono ?_
    rintro e w6 ⟨rfl, g6⟩
    have N6 := Lib.hid (blk_keep (belowT G1.out g6) N5.out)
    have D6 := Lib.hid (D5.out.keep (belowT G1.out g6))
    have B6 := Lib.hid (belowT B5.out g6)
    clear g6 x1 x4 xl c4 cl
    obtain ⟨_, x1, _, _, x4, xl⟩ := bx_cells N6.out
    have d4 := ldA_block D6.out.m (bx_size _)
    have dl := D6.out.lt
    go_wp2_with fail
    refine (same_is d ⟨cap, ⟨p, nb, cp⟩, lag, closed⟩ ld l _ D6.out.s (by have := slE_keep B6.out HS.out; rw [Hb.out] at this; exact this) HLd.out (by rw [ED'.out, HP.out, Hb.out])).mono ?_
    rintro e w7 ⟨rfl, g7⟩
    go_wp2_with fail
    go_ret
    exact ⟨rfl, belowT B6.out g7⟩
  | true =>
    have hm := HR.out.symm
    have HMc := Lib.hid (fun W (g : Below w4.heap.size w4 W) => may_any c lc W (slE_keep g C4.out.s))
    have HMd := Lib.hid (fun W (g : Below w4.heap.size w4 W) => may_any d ld W (slE_keep g D4.out.s))
    rw [EC.out, post_may hm n] at HMc
    rw [ED.out, take_may hm] at HMd
    have hPl : P.l = l := by rw [HP.out]; rfl
    have hlc : lc.length = nb ∨ lc.length = nb + 1 := by
      have := post_len P n
      rw [← EC.out, hPl, HL.out] at this
      exact this
    have hok : ok = decide (0 < nb) := by rw [HOK.out]; unfold takeB; rw [hm, hPl, HL.out, Bool.true_and]
    have K := sv_len C4.out.s
    obtain ⟨capc, ⟨pc, nc, cc⟩, lagc, closedc⟩ := c
    dsimp only at K
    rw [K] at hlc
    have t1 : decide ((nc : Int) ≤ (nb : Int) + 1) = true := by rw [decide_eq_true_iff]; omega
    have t2 : decide (nb ≤ nc) = true := by rw [decide_eq_true_iff]; omega
    have t3 : (ok == decide (0 < nb)) = true := by rw [hok]; simp
    have u1 : (nb : Int) + 1 < 1000 := by have := HN.out; omega
    clear hm hPl hlc hok K x1 xl x4
    go_wp2_with fail
    refine (HMc.out _ (Below.refl _ _)).mono ?_
    rintro e w5 ⟨rfl, g5⟩
    have N5 := Lib.hid (blk_keep g5 N4.out)
    have C5 := Lib.hid (C4.out.keep g5)
    have D5 := Lib.hid (D4.out.keep g5)
    have B5 := Lib.hid (belowT B4.out g5)
    have G5 := Lib.hid g5
    clear g5 c4 cl d4 dl
    obtain ⟨_, x1, _, _, x4, xl⟩ := bx_cells N5.out
    dsimp only at x1
    rw [sv_mk] at x1
    obtain ⟨_, z1, _, _, z4, zl⟩ := bx_cells C5.out.m
    dsimp only at z1
    rw [sv_mk] at z1
    have d4 := ldA_block D5.out.m (bx_size _)
    have dl := D5.out.lt
    go_wp2_with fail
    refine (HMd.out _ G5.out).mono ?_
    rintro e w6 ⟨rfl, g6⟩
    go_wp2_with fail
    go_ret
    exact ⟨rfl, belowT B5.out g6⟩
theorem boxRoom_walk (b : Bx) (l : List Nt) (n : Nt) (w : World) (h : SlE Ent w (sv b.l) l) :
    Calls Try.prog 6 #[.agg (bx b), .agg (nt n)] w fun e w' => e = .returned (.bool true) ∧ Below w.heap.size w w' := by
  have hl := sv_len h
  obtain ⟨cap, ⟨p, nb, cp⟩, lag, closed⟩ := b
  by_cases hn : 60 < nb
  · exact boxRoom_many cap p nb cp lag closed n w hn
  · exact boxRoom_few cap p nb cp lag closed l n w h hl (by omega)
end Go.Proofs.Ytiljgnhnpoackaa
