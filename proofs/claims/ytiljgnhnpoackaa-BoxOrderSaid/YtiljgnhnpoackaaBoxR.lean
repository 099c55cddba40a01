/-
  The law BoxOrder, walked.
-/
import Derived.Test.YtiljgnhnpoackaaBoxQ
import Derived.Deep.Cut
import Derived.Deep.CutRange
namespace Go.Proofs.Ytiljgnhnpoackaa
open Go.RowKit

theorem post_cases {cap : Int} {q : List Nt} {lb closed : Bool} (hm : mayX Nt.ver ⟨cap, q, lb, closed⟩ = true) (x : Nt) :
    postX Nt.ver ⟨cap, q, lb, closed⟩ x = if (!closed && !lastB Nt.ver q x.ver) = true then (if (q.length : Int) = cap then ⟨cap, q, true, closed⟩ else ⟨cap, q ++ [x], lb, closed⟩) else ⟨cap, q, lb, closed⟩ := by
  unfold postX fitB
  rw [hm, Bool.true_and]
/-- The memory of the loops: b in its block, c in block gc, the row u of what is wanted. -/
structure Ord (w wr : World) (gc base : Nat) (b c : Bx) (u : Value) (q : List Nt) (P : BoxP Nt) : Prop where
  ro : OwnE Ent wr base u q
  ne : u.ownBlock ≠ some gc
  mc : wr.heap[gc]? = some (.cells (bx c) 24 (0, 0))
  ms : SlE Ent wr (sv c.l) P.l
  me : bp c P.l = P
  mb : wr.heap[w.heap.size]? = some (.cells (bx b) 24 (0, 0))
  mg : Below w.heap.size w wr
  mz : base ≤ wr.heap.size
  lt : w.heap.size < base
  le : base ≤ gc
theorem Ord.keep {w wr wx : World} {gc base : Nat} {b c : Bx} {u : Value} {q : List Nt} {P : BoxP Nt} (h : Ord w wr gc base b c u q P) (k : Below wr.heap.size wr wx) : Ord w wx gc base b c u q P :=
  ⟨ownE_keep k h.ro, h.ne, blk_keep k h.mc, slE_keep k h.ms, h.me, blk_keep k h.mb, belowT h.mg k, Nat.le_trans h.mz k.size, h.lt, h.le⟩
theorem Ord.put {w wr : World} {gc base : Nat} {b c d : Bx} {u : Value} {q ld : List Nt} {P P' : BoxP Nt} (h : Ord w wr gc base b c u q P) (sd : SlE Ent wr (sv d.l) ld) (ed : bp d ld = P') : Ord w (stA wr (.pointer (some ⟨gc, 0, none⟩)) (.agg (bx d))) gc base b d u q P' := by
  have e : ld = P'.l := bp_l ed
  subst e
  have h1 := h.lt
  have h2 := h.le
  exact ⟨ownE_block h.ro (fun k _ hk => heap_stA (fun e => h.ne (by rw [hk, e]))), h.ne, heap_put h.mc (by rw [bx_size, bx_size]), slE_put_bx sd h.mc, ed, (heap_stA (by omega)).trans h.mb, below_stA h.mg (by omega), by rw [size_stA]; exact h.mz, h.lt, h.le⟩
theorem Ord.app {w wr w7 : World} {gc base : Nat} {b d : Bx} {u v7 : Value} {q : List Nt} {P : BoxP Nt} {x : Nt} (h : Ord w wr gc base b d u q P) (hf : ∀ k, (sv d.l).ownBlock = some k → u.ownBlock ≠ some k) (ho : OwnE Ent w7 base v7 (q ++ [x])) (hg : Gr (wr.alloc (.cells (nt x) 31)) u w7 v7) : Ord w w7 gc base b d v7 (q ++ [x]) P := by
  have h1 := h.lt
  have h2 := h.le
  have hz := h.mz
  have hc : gc < wr.heap.size := (Array.getElem?_eq_some_iff.1 h.mc).1
  have k1 : Below wr.heap.size wr (wr.alloc (.cells (nt x) 31)) := below1
  refine ⟨ho, ?_, hg.heap (blk_keep k1 h.mc) h.ne, slE_block (slE_keep k1 h.ms) hg.1.size (fun k hk1 hk2 => hg.block hk1 (hf k hk2)), h.me, hg.heap (blk_keep k1 h.mb) (fun e => by have := (ownE_lt h.ro e).1; omega), ?_, ?_, h1, h2⟩
  · intro e
    rcases hg.2 with e2 | e2
    · exact h.ne (e2.symm.trans e)
    · have := e2 _ e; simp at this; omega
  · exact (belowT h.mg k1).trans ((hg.own (ownE_alloc h.ro _) (by simp; omega)).mono (by omega))
  · exact Nat.le_trans hz (Nat.le_trans k1.size hg.1.size)
theorem empty_take (c : Bx) (k : List Nt) (cap : Int) (lag closed : Bool) (w : World) (hc : bp c k = ⟨cap, [], lag, closed⟩) (h : SlE Ent w (sv c.l) k) :
    Calls Try.prog 13 #[.agg (bx c)] w (TakF ⟨cap, [], lag, closed⟩ znt false w) := by
  have hk : k = [] := bp_l hc
  have e0 : takeB Nt.ver (⟨cap, [], lag, closed⟩ : BoxP Nt) = false := by unfold takeB; simp
  have := take_fresh c k w h (by rw [hk]; simp)
  rw [hc, e0] at this
  rw [show takeX Nt.ver (⟨cap, [], lag, closed⟩ : BoxP Nt) = ⟨cap, [], lag, closed⟩ from by unfold takeX; rw [if_neg (by rw [e0]; exact Bool.false_ne_true)]] at this
  rw [show takeN Nt.ver znt (⟨cap, [], lag, closed⟩ : BoxP Nt) = znt from by unfold takeN; rw [if_neg (by rw [e0]; exact Bool.false_ne_true)]] at this
  exact this

set_option maxRecDepth 100000 in
set_option maxHeartbeats 4000000 in
theorem boxOrder_n (cap : Int) (p : Option Addr) (nb cp : Nat) (lag closed : Bool) (l : List Nt) (pm : Option Addr) (m cm : Nat) (a : List Nt) (w : World) (h : SlE Ent w (.slice p nb cp) l) (h' : SlE Ent w (.slice pm m cm) a) (hl : l.length = nb) (ha : a.length = m) :
    Calls Try.prog 4 #[.agg (bx ⟨cap, ⟨p, nb, cp⟩, lag, closed⟩), .slice pm m cm] w fun e w' => e = .returned (.bool true) ∧ Below w.heap.size w w' := by
  have HMa := Lib.hid (fun W (g : Below w.heap.size w W) => may_any ⟨cap, ⟨p, nb, cp⟩, lag, closed⟩ l W (slE_keep g h))
  obtain ⟨r, hr⟩ : ∃ r, r = mayX Nt.ver ⟨cap, l, lag, closed⟩ := ⟨_, rfl⟩
  rw [show mayX Nt.ver (bp ⟨cap, ⟨p, nb, cp⟩, lag, closed⟩ l) = r from hr.symm] at HMa
  have HR := Lib.hid hr
  have HS := Lib.hid h
  have HA := Lib.hid h'
  have HL := Lib.hid hl
  have HAL := Lib.hid ha
  obtain ⟨W0, hW0⟩ : ∃ W0, W0 = w.alloc (.cells (bx ⟨cap, ⟨p, nb, cp⟩, lag, closed⟩) 24) := ⟨_, rfl⟩
  have HB : Hid (Below w.heap.size w W0) := by rw [hW0]; exact below1
  have M0 : Hid (W0.heap[w.heap.size]? = some (.cells (bx ⟨cap, ⟨p, nb, cp⟩, lag, closed⟩) 24 (0, 0))) := by rw [hW0]; exact heap_alloc_last w _
  have HW := Lib.hid hW0
  clear h h' hl ha hr hW0
  go_enter Try.func4, Try.ntmps4
  go_wp2_with fail
  rw [← HW.out]
  refine (awake_any _).mono ?_
  rintro e w1 ⟨rfl, g1⟩
  have N1 := Lib.hid (blk_keep g1 M0.out)
  have B1 := Lib.hid (belowT HB.out g1)
  clear g1
  obtain ⟨_, _, _, _, x4, xl⟩ := bx_cells N1.out
  go_wp2_with fail
  refine (HMa.out _ B1.out).mono ?_
  rintro e w2 ⟨rfl, g2⟩
  have N2 := Lib.hid (blk_keep g2 N1.out)
  have B2 := Lib.hid (belowT B1.out g2)
  clear g2 x4 xl
  obtain ⟨_, x1, _, _, _, xl⟩ := bx_cells N2.out
  dsimp only at x1
  rw [sv_mk] at x1
  cases r with
  | false =>
    go_wp2_with fail
    go_ret
    exact ⟨rfl, B2.out⟩
  | true =>
    by_cases hm : 60 < m
    · have t0 : decide ((60 : Int) < (m : Int)) = true := by rw [decide_eq_true_iff]; omega
      clear hm
      go_wp2_with fail
      go_ret
      exact ⟨rfl, B2.out⟩
    · have t0 : decide ((60 : Int) < (m : Int)) = false := by rw [decide_eq_false_iff_not]; omega
      have HM60 := Lib.hid (show m ≤ 60 by omega)
      have H8 : Hid (l.length ≤ 8) := mayX_len HR.out.symm
      have S2 := Lib.hid (slE_keep B2.out HS.out)
      have L2 := Lib.hid xl
      clear hm
      go_wp2_with (
        at_builtin
        refine wpList_append_E Knt _ rfl (.const (.slice none 0 0)) (.tmp 33) rfl w2.heap.size _ [] rfl (ownE_nil _ _ _) _ l rfl S2.out (by have := H8.out; simp; omega) (Nat.le_refl _) ?_
        intro v3 w3 ho3 hg3
        have D3 : Below w2.heap.size w2 w3 := hg3.own (ownE_nil Ent w2 w2.heap.size) (Nat.le_refl _)
        have N3 := Lib.hid (blk_keep D3 N2.out)
        have B3 := Lib.hid (belowT B2.out D3)
        have Z3 : Hid (w2.heap.size ≤ w3.heap.size) := D3.size
        have O3 : Hid (OwnE Ent w3 w2.heap.size v3 l) := ho3
        clear ho3 hg3 D3 x1 xl
        obtain ⟨_, _, x2, _, x4, xl⟩ := bx_cells N3.out
        dsimp only at x2)
      obtain ⟨W5, hW5⟩ : ∃ W5, W5 = w3.alloc (.cells (bx ⟨cap, ⟨p, nb, cp⟩, lag, closed⟩) 24) := ⟨_, rfl⟩
      have R5 : Hid (Ord w W5 w3.heap.size w2.heap.size ⟨cap, ⟨p, nb, cp⟩, lag, closed⟩ ⟨cap, ⟨p, nb, cp⟩, lag, closed⟩ v3 l ⟨cap, l, lag, closed⟩) := by
        have k := below1 (w := w3) (o := .cells (bx ⟨cap, ⟨p, nb, cp⟩, lag, closed⟩) 24)
        rw [hW5]
        exact ⟨ownE_keep k O3.out, ownE_ne O3.out (Nat.le_refl _), heap_alloc_last w3 _, slE_keep (belowT B3.out k) HS.out, rfl, blk_keep k N3.out, belowT B3.out k, Nat.le_trans Z3.out k.size, L2.out, Z3.out⟩
      have HW5 := Lib.hid hW5
      clear hW5 x2 x4 xl
      rw [← HW5.out]
      go_loopw [6, 7, 9] (fun u lo i wr => ∃ (j : Nat) (c : Bx) (q : List Nt) (lb : Bool), j ≤ m ∧ i = .int .i64 j ∧ lo = .bool lb ∧ mayX Nt.ver ⟨cap, q, lb, closed⟩ = true ∧ Ord w wr w3.heap.size w2.heap.size ⟨cap, ⟨p, nb, cp⟩, lag, closed⟩ c u q ⟨cap, q, lb, closed⟩) (fun _ _ i _ => m - (intOf i).toNat)
      case atStart => exact ⟨0, _, l, lag, Nat.zero_le _, rfl, rfl, HR.out.symm, R5.out⟩
      case round =>
        obtain ⟨j, c, q, lb, hj, rfl, rfl, hmq, hord⟩ := hrel
        have HMQ := Lib.hid hmq
        have HO := Lib.hid hord
        have Q8 : Hid (q.length ≤ 8) := mayX_len hmq
        have hshape := ownE_len hord.ro (n := q.length) rfl
        obtain ⟨nu, hnu⟩ : ∃ nu, nu = q.length := ⟨_, rfl⟩
        rw [← hnu] at hshape
        obtain ⟨pu, cu, rfl⟩ := hshape
        have HNU : Hid (q.length = nu) := hnu.symm
        clear hmq hord hnu
        by_cases hlt : j < m
        · have u1 : (j : Int) + 1 < 10000 := by have := HM60.out; omega
          have i0 : (0 : Int) ≤ (j : Int) := by omega
          have i1 : (j : Int) < (m : Int) := by omega
          obtain ⟨b1, o1, c1, e1, _, q1, x1⟩ := slE_ne HA.out (by have := HAL.out; omega)
          injection e1 with e2 e4 e3
          clear e4
          subst e2 e3
          generalize hx : itN a j = x
          have y1 : w.cell? ⟨b1, o1 + j * 66, none⟩ = some (.int .i64 x.ver) := by rw [← hx]; exact nts_ver x1 (by have := HAL.out; omega)
          have y2 : ldA w (.pointer (some ⟨b1, o1 + j * 66, none⟩)) 66 = some (nt x) := by rw [← hx]; exact nts_ld x1 (by have := HAL.out; omega)
          have Y1 := Lib.hid y1
          have Y2 := Lib.hid y2
          have Q1 := Lib.hid q1
          clear x1 q1 y1 y2 hx
          obtain ⟨f, hf⟩ : ∃ f, f = (!closed && !lastB Nt.ver q x.ver) := ⟨_, rfl⟩
          have HF := Lib.hid hf
          clear hf
          go_upto_region 10 with fail
          go_cut [10] from 38 to 100 (fun t wx => t = .bool f ∧ Below wr.heap.size wr wx)
          case first =>
            obtain ⟨_, _, _, z3, _, zl⟩ := bx_cells HO.out.mb
            dsimp only at z3
            have y1 := (HO.out.mg.cell (p := ⟨b1, o1 + j * 66, none⟩) Q1.out).trans Y1.out
            cases closed with
            | true =>
              have hf : f = false := by rw [HF.out]; rfl
              subst hf
              go_quiet (fail)
              go_wp2_with fail
              go_meet
              exact ⟨rfl, belowD (Below.refl _ _) _⟩
            | false =>
              cases nu with
              | zero =>
                have hf : f = true := by
                  rw [HF.out]; unfold lastB; rw [dif_neg (by have := HNU.out; omega)]; rfl
                subst hf
                go_quiet (fail)
                go_wp2_with fail
                go_meet
                exact ⟨rfl, belowD (Below.refl _ _) _⟩
              | succ k =>
                obtain ⟨b2, o2, c2, e1, _, q2, x2⟩ := slE_ne (ownE_slE HO.out.ro) (by have := HNU.out; omega)
                injection e1 with e2 e4 e3
                clear e4
                subst e2 e3
                have y2 : wr.cell? ⟨b2, o2 + k * 66, none⟩ = some (.int .i64 (itN q k).ver) := nts_ver x2 (by have := HNU.out; omega)
                have t2 : ((k : Int) + 1 == 0) = false := by simp; omega
                have i2 : (0 : Int) ≤ (k : Int) := by omega
                have i3 : (k : Int) < (k : Int) + 1 := by omega
                have u2 : (k : Int) + 1 < 10000 := by have := HNU.out; have := Q8.out; omega
                have t3 : decide ((itN q k).ver < x.ver) = f := by
                  have hk : k = q.length - 1 := by have := HNU.out; omega
                  rw [HF.out]
                  unfold lastB
                  rw [dif_pos (by have := HNU.out; omega), itN_in q (by have := HNU.out; omega)]
                  subst hk
                  rw [Bool.not_false, Bool.true_and, ← decide_not, Bool.eq_iff_iff, decide_eq_true_iff, decide_eq_true_iff]
                  omega
                clear x2
                go_quiet (fail)
                go_wp2_with fail
                go_meet
                exact ⟨rfl, belowD (Below.refl _ _) _⟩
          case rest =>
            obtain ⟨rfl, gx⟩ := hcut
            have HX := Lib.hid (HO.out.keep gx)
            have HP := Lib.hid (fun W (k : SlE Ent W (sv c.l) q) => post_fresh c x q W k (by have := Q8.out; omega))
            rw [show bp c q = ⟨cap, q, lb, closed⟩ from HX.out.me] at HP
            obtain ⟨wa, rfl⟩ : ∃ wa : World, wa = wc := ⟨_, rfl⟩
            clear gx
            obtain ⟨_, _, _, _, z4, zl⟩ := bx_cells HX.out.mc
            have y2 := keep HX.out.mg Y2.out
            have q1 : b1 < wa.heap.size := Nat.lt_of_lt_of_le Q1.out HX.out.mg.size
            go_upto_region 11 with fail
            go_cut [10] from 38 to 100 (fun t wx => t = .bool f ∧ ∃ d : Bx, Ord w wx w3.heap.size w2.heap.size ⟨cap, ⟨p, nb, cp⟩, lag, closed⟩ d (.slice pu nu cu) q (postX Nt.ver ⟨cap, q, lb, closed⟩ x) ∧ ∀ k, (sv d.l).ownBlock = some k → (Value.slice pu nu cu).ownBlock ≠ some k)
            case first =>
              go_region_law (
                refine step_callE _ rfl rfl enters_post #[.agg (bx c), .agg (nt x)] rfl ?_
                refine (HP.out wa.drew HX.out.ms).mono ?_
                rintro e w5 ⟨d, ld, rfl, ed, sd, fd, gd⟩
                refine ⟨_, rfl, ?_⟩
                have H5 := Lib.hid (HX.out.keep (belowT (belowD (Below.refl _ _) 1) gd))
                have f1 := wrA_block H5.out.mc (bx_size _)
                have HR6 := Lib.hid (And.intro (H5.out.put sd ed) (fun k hk e => by have := fd k hk; have := (ownE_lt HX.out.ro e).2; have : wa.drew.heap.size = wa.heap.size := rfl; omega : ∀ k, (sv d.l).ownBlock = some k → (Value.slice pu nu cu).ownBlock ≠ some k))
                clear ed sd fd gd)
              all_goals (go_wp2_with fail; go_meet; exact ⟨rfl, d, HR6.out⟩)
            case rest =>
              obtain ⟨rfl, d, hd, fd⟩ := hcut
              have hmd := post_may HMQ.out x
              have hpc := post_cases HMQ.out x
              rw [← HF.out] at hpc
              obtain ⟨wb, rfl⟩ : ∃ wb : World, wb = wc := ⟨_, rfl⟩
              clear HX HP z4 zl y2 q1
              have y2 := keep hd.mg Y2.out
              have q1 : b1 < wb.heap.size := Nat.lt_of_lt_of_le Q1.out hd.mg.size
              obtain ⟨x0, _, _, _, _, xl⟩ := bx_cells hd.mb
              dsimp only at x0
              cases f with
              | false =>
                rw [if_neg Bool.false_ne_true] at hpc
                rw [hpc] at hd hmd
                obtain ⟨sd, rfl, _⟩ := bp_eq hd.me
                have HD := Lib.hid hd
                have HMM := Lib.hid hmd
                clear hd hmd hpc fd
                obtain ⟨_, _, z2, _, z4, zl⟩ := bx_cells HD.out.mc
                dsimp only at z2
                have HMd := Lib.hid (fun W (k : SlE Ent W (sv sd) q) => may_any ⟨cap, sd, lb, closed⟩ q W k)
                rw [show mayX Nt.ver (bp ⟨cap, sd, lb, closed⟩ q) = true from HMM.out] at HMd
                cases lb with
                | false =>
                  go_wp2_with fail
                  refine (HMd.out wb HD.out.ms).mono ?_
                  rintro e w8 ⟨rfl, g8⟩
                  have H8' := Lib.hid (HD.out.keep g8)
                  clear g8
                  go_wp2_with fail
                  go_roundw
                  case rel => exact ⟨j + 1, _, q, false, by omega, by go_num, rfl, HMM.out, H8'.out⟩
                  case measure => simp [intOf]; omega
                | true =>
                  go_wp2_with fail
                  refine (HMd.out wb HD.out.ms).mono ?_
                  rintro e w8 ⟨rfl, g8⟩
                  have H8' := Lib.hid (HD.out.keep g8)
                  clear g8
                  go_wp2_with fail
                  go_roundw
                  case rel => exact ⟨j + 1, _, q, true, by omega, by go_num, rfl, HMM.out, H8'.out⟩
                  case measure => simp [intOf]; omega
              | true =>
                rw [if_pos rfl, HNU.out] at hpc
                by_cases hcap : (nu : Int) = cap
                · have t2 : decide ((nu : Int) < cap) = false := by rw [decide_eq_false_iff_not]; omega
                  rw [if_pos hcap] at hpc
                  rw [hpc] at hd hmd
                  obtain ⟨sd, rfl, _⟩ := bp_eq hd.me
                  have HD := Lib.hid hd
                  have HMM := Lib.hid hmd
                  clear hd hmd hpc fd hcap
                  obtain ⟨_, _, z2, _, z4, zl⟩ := bx_cells HD.out.mc
                  dsimp only at z2
                  have HMd := Lib.hid (fun W (k : SlE Ent W (sv sd) q) => may_any ⟨cap, sd, true, closed⟩ q W k)
                  rw [show mayX Nt.ver (bp ⟨cap, sd, true, closed⟩ q) = true from HMM.out] at HMd
                  cases lb with
                  | false =>
                    go_wp2_with fail
                    refine (HMd.out wb HD.out.ms).mono ?_
                    rintro e w8 ⟨rfl, g8⟩
                    have H8' := Lib.hid (HD.out.keep g8)
                    clear g8
                    go_wp2_with fail
                    go_roundw
                    case rel => exact ⟨j + 1, _, q, true, by omega, by go_num, rfl, HMM.out, H8'.out⟩
                    case measure => simp [intOf]; omega
                  | true =>
                    go_wp2_with fail
                    refine (HMd.out wb HD.out.ms).mono ?_
                    rintro e w8 ⟨rfl, g8⟩
                    have H8' := Lib.hid (HD.out.keep g8)
                    clear g8
                    go_wp2_with fail
                    go_roundw
                    case rel => exact ⟨j + 1, _, q, true, by omega, by go_num, rfl, HMM.out, H8'.out⟩
                    case measure => simp [intOf]; omega
                · have hlt2 : (nu : Int) < cap := by
                    have := (mayX_iff.1 HMQ.out).2.2.1
                    have e : ((⟨cap, q, lb, closed⟩ : BoxP Nt).l.length : Int) = (nu : Int) := by show (q.length : Int) = _; rw [HNU.out]
                    rw [e] at this
                    have : (nu : Int) ≤ cap := this
                    omega
                  have t2 : decide ((nu : Int) < cap) = true := decide_eq_true hlt2
                  rw [if_neg hcap] at hpc
                  rw [hpc] at hd hmd
                  obtain ⟨sd, rfl, _⟩ := bp_eq hd.me
                  have HD := Lib.hid hd
                  have HMM := Lib.hid hmd
                  have HFD := Lib.hid fd
                  clear hd hmd hpc fd hcap hlt2
                  have HMd := Lib.hid (fun W (k : SlE Ent W (sv sd) (q ++ [x])) => may_any ⟨cap, sd, lb, closed⟩ (q ++ [x]) W k)
                  rw [show mayX Nt.ver (bp ⟨cap, sd, lb, closed⟩ (q ++ [x])) = true from HMM.out] at HMd
                  go_wp2_with (
                    at_builtin
                    refine wpList_append_E Knt _ rfl (.tmp 81) (.tmp 86) rfl w2.heap.size _ q rfl (ownE_alloc HD.out.ro _) _ [x] rfl (slE_lit _ [x] 1 _ _ _ rfl (by simp) (by simp [cellsE, Ent, nt_list])) (by have := Q8.out; simp; omega) (by have := HD.out.mz; simp; omega) ?_
                    intro v7 w7 ho7 hg7
                    have H7 := Lib.hid (HD.out.app HFD.out ho7 hg7)
                    clear ho7 hg7
                    obtain ⟨_, _, z2, _, z4, zl⟩ := bx_cells H7.out.mc
                    dsimp only at z2)
                  refine (HMd.out w7 H7.out.ms).mono ?_
                  rintro e w8 ⟨rfl, g8⟩
                  have H8' := Lib.hid (H7.out.keep g8)
                  clear g8
                  go_wp2_with fail
                  go_roundw
                  case rel => exact ⟨j + 1, _, q ++ [x], lb, by omega, by go_num, rfl, HMM.out, H8'.out⟩
                  case measure => simp [intOf]; omega
        · obtain rfl : j = m := by omega
          obtain ⟨wo, rfl⟩ : ∃ wo : World, wo = wr := ⟨_, rfl⟩
          go_wp2_with fail
          go_loopw [11] (fun i wr => ∃ (k : Nat) (c : Bx), k ≤ nu ∧ i = .int .i64 k ∧ Ord w wr w3.heap.size w2.heap.size ⟨cap, ⟨p, nb, cp⟩, lag, closed⟩ c (.slice pu nu cu) q ⟨cap, q.drop k, lb, closed⟩) (fun i _ => nu - (intOf i).toNat)
          case atStart => exact ⟨0, c, Nat.zero_le _, rfl, by rw [List.drop_zero]; exact HO.out⟩
          case round =>
            obtain ⟨k, c, hk, rfl, ho⟩ := hrel
            have HK := Lib.hid ho
            obtain ⟨_, _, _, _, z4, zl⟩ := bx_cells ho.mc
            by_cases hlt3 : k < nu
            · have u1 : (k : Int) + 1 < 10000 := by have := Q8.out; have := HNU.out; omega
              have i0 : (0 : Int) ≤ (k : Int) := by omega
              have i1 : (k : Int) < (nu : Int) := by omega
              have HT := Lib.hid (take_next c (q.drop k) cap q lb closed k wr HMQ.out (by have := HNU.out; omega) ho.me ho.ms)
              obtain ⟨b2, o2, c2, e1, _, q2, x2⟩ := slE_ne (ownE_slE ho.ro) (by have := HNU.out; omega)
              injection e1 with e2 e4 e3
              clear e4
              subst e2 e3
              have y2 := nts_ld x2 (i := k) (by have := HNU.out; omega)
              have Y2 := Lib.hid y2
              have Q2 := Lib.hid q2
              clear ho x2 y2 q2
              generalize itN q k = x at *
              go_wp2_with fail
              refine HT.out.mono ?_
              rintro e w5 ⟨d, ld, rfl, ed, sd, fd, gd⟩
              have H5 := Lib.hid (HK.out.keep gd)
              have H6 := Lib.hid (H5.out.put sd ed)
              have f2 := wrA_block H5.out.mc (bx_size _)
              have fl : w3.heap.size < w5.heap.size := (Array.getElem?_eq_some_iff.1 H5.out.mc).1
              have y2 := keep gd Y2.out
              have q2 : b2 < w5.heap.size := Nat.lt_of_lt_of_le Q2.out gd.size
              clear ed sd fd gd z4 zl
              go_wp2_with fail
              go_quiet (fail)
              go_wp2_with fail
              go_roundw
              case rel => exact ⟨k + 1, d, by omega, by go_num, H6.out.keep (belowD (belowT below1 below1) _)⟩
              case measure => simp [intOf]; omega
            · obtain rfl : k = nu := by omega
              have hnone : q.drop k = [] := by rw [← HNU.out]; exact List.drop_length
              have hme := ho.me
              have hms := ho.ms
              rw [hnone] at hme hms
              have HT := Lib.hid (empty_take c [] cap lb closed wr hme hms)
              clear hnone hme hms ho
              go_wp2_with fail
              refine HT.out.mono ?_
              rintro e w5 ⟨d, ld, rfl, ed, sd, fd, gd⟩
              have B9 := Lib.hid (belowT HK.out.mg (belowT (belowT gd (below1 (o := .cells (bx d) 24))) (below1 (o := .cells (nt znt) 31))))
              clear ed sd fd gd
              go_wp2_with fail
              go_ret
              exact ⟨rfl, B9.out⟩
theorem boxOrder_walk (b : Bx) (l : List Nt) (v : Value) (a : List Nt) (w : World) (h : SlE Ent w (sv b.l) l) (h' : SlE Ent w v a) :
    Calls Try.prog 4 #[.agg (bx b), v] w fun e w' => e = .returned (.bool true) ∧ Below w.heap.size w w' := by
  have hl := sv_len h
  obtain ⟨cap, ⟨p, n, cp⟩, lag, closed⟩ := b
  have h'' := h'
  obtain ⟨q, cq, rfl, _⟩ := slE_shape h'
  exact boxOrder_n cap p n cp lag closed l q a.length cq a w h h'' hl rfl
end Go.Proofs.Ytiljgnhnpoackaa
