/-
  The law BoxTakes, walked.
-/
import Derived.Test.YtiljgnhnpoackaaBoxL
namespace Go.Proofs.Ytiljgnhnpoackaa
open Go.RowKit

/-- Notes do not lie in a box's block. -/
theorem slE_not_bx {w : World} {v : Value} {l : List Nt} {g : Nat} {x : Bx} {t : TypeId} {fr : Nat × Nat} (h : SlE Ent w v l) (hg : w.heap[g]? = some (.cells (bx x) t fr)) : l = [] ∨ v.ownBlock ≠ some g := by
  by_cases hl : l = []
  · exact .inl hl
  · refine .inr fun e => ?_
    obtain ⟨b, off, cap, rfl, _, _, hr⟩ := slE_ne h (List.length_pos_iff.2 hl)
    have hb : b = g := by simpa [Value.ownBlock] using e
    subst hb
    have hlen : 66 ≤ (cellsE Ent l).length := by
      rw [cellsE_length]
      have : 0 < l.length := List.length_pos_iff.2 hl
      show 66 ≤ l.length * 66
      omega
    have hv : (cellsE Ent l)[65]? = some ((cellsE Ent l)[65]'(by omega)) := List.getElem?_eq_getElem _
    have := hr 65 _ hv
    rw [cell_of_row _ _ _ _ _ _ hg, Array.getElem?_eq_none (by rw [bx_size]; omega)] at this
    cases this
/-- Behind a store into a box's block. -/
theorem slE_put_bx {w : World} {v y : Value} {l : List Nt} {g : Nat} {x : Bx} {t : TypeId} {fr : Nat × Nat} (h : SlE Ent w v l) (hg : w.heap[g]? = some (.cells (bx x) t fr)) : SlE Ent (stA w (.pointer (some ⟨g, 0, none⟩)) y) v l := by
  rcases slE_not_bx h hg with e | e
  · subst e
    obtain ⟨p, cap, rfl, _⟩ := h
    exact slE_nil _ _ _ _
  · exact slE_stA h e
theorem may_drop {cap : Int} {l : List Nt} {lag closed : Bool} (h : mayX Nt.ver ⟨cap, l, lag, closed⟩ = true) (j : Nat) : mayX Nt.ver ⟨cap, l.drop j, lag, closed⟩ = true := by
  rw [mayX_iff] at *
  exact ⟨h.1, h.2.1, by have := h.2.2.1; simp only [List.length_drop] at *; omega, risB_drop Nt.ver h.2.2.2 j⟩
theorem take_snocN (l : List Nt) (j : Nat) (h : j < l.length) : l.take (j + 1) = l.take j ++ [itN l j] := by
  rw [itN_in l h, List.take_succ_eq_append_getElem h]
/-- Take, of what is left. -/
theorem take_next (c : Bx) (k : List Nt) (cap : Int) (l : List Nt) (lag closed : Bool) (j : Nat) (w : World) (hm : mayX Nt.ver ⟨cap, l, lag, closed⟩ = true) (hj : j < l.length) (hc : bp c k = ⟨cap, l.drop j, lag, closed⟩) (h : SlE Ent w (sv c.l) k) :
    Calls Try.prog 13 #[.agg (bx c)] w (TakF ⟨cap, l.drop (j + 1), lag, closed⟩ (itN l j) true w) := by
  have hk : k = l.drop j := congrArg BoxP.l hc
  have hl := mayX_len hm
  have e0 : takeB Nt.ver (⟨cap, l.drop j, lag, closed⟩ : BoxP Nt) = true := by
    unfold takeB
    rw [may_drop hm j, Bool.true_and, decide_eq_true_iff]
    show 0 < (l.drop j).length
    rw [List.length_drop]; omega
  have := take_fresh c k w h (by rw [hk, List.length_drop]; have : (⟨cap, l, lag, closed⟩ : BoxP Nt).l.length ≤ 8 := hl; dsimp only at this; omega)
  rw [hc, e0] at this
  rw [show takeX Nt.ver (⟨cap, l.drop j, lag, closed⟩ : BoxP Nt) = ⟨cap, l.drop (j + 1), lag, closed⟩ from by unfold takeX; rw [if_pos e0]; show (⟨cap, (l.drop j).drop 1, lag, closed⟩ : BoxP Nt) = _; rw [List.drop_drop]] at this
  rw [show takeN Nt.ver znt (⟨cap, l.drop j, lag, closed⟩ : BoxP Nt) = itN l j from by unfold takeN; rw [if_pos e0]; show (l.drop j).getD 0 znt = _; simp [itN]] at this
  exact this

set_option maxRecDepth 100000 in
set_option maxHeartbeats 2000000 in
theorem boxTakes_n (cap : Int) (p : Option Addr) (n cp : Nat) (lag closed : Bool) (l : List Nt) (w : World) (h : SlE Ent w (.slice p n cp) l) (hl : l.length = n) :
    Calls Try.prog 8 #[.agg (bx ⟨cap, ⟨p, n, cp⟩, lag, closed⟩)] w fun e w' => e = .returned (.bool true) ∧ Below w.heap.size w w' := by
  have HM := Lib.hid (fun W (g : Below w.heap.size w W) => may_any ⟨cap, ⟨p, n, cp⟩, lag, closed⟩ l W (slE_keep g h))
  obtain ⟨r, hr⟩ : ∃ r, r = mayX Nt.ver (bp ⟨cap, ⟨p, n, cp⟩, lag, closed⟩ l) := ⟨_, rfl⟩
  rw [← hr] at HM
  have HR := Lib.hid (show r = mayX Nt.ver ⟨cap, l, lag, closed⟩ from hr)
  have HS := Lib.hid h
  have HL := Lib.hid hl
  obtain ⟨W0, hW0⟩ : ∃ W0, W0 = w.alloc (.cells (bx ⟨cap, ⟨p, n, cp⟩, lag, closed⟩) 24) := ⟨_, rfl⟩
  have HB : Hid (Below w.heap.size w W0) := by rw [hW0]; exact below1
  have M0 : Hid (W0.heap[w.heap.size]? = some (.cells (bx ⟨cap, ⟨p, n, cp⟩, lag, closed⟩) 24 (0, 0))) := by rw [hW0]; exact heap_alloc_last w _
  have HW := Lib.hid hW0
  clear h hl hr hW0
  go_enter Try.func8, Try.ntmps8
  go_wp2_with fail
  rw [← HW.out]
  refine (awake_any _).mono ?_
  rintro e w1 ⟨rfl, g1⟩
  have N1 := Lib.hid (blk_keep g1 M0.out)
  have B1 := Lib.hid (belowT HB.out g1)
  obtain ⟨_, _, _, _, x4, xl⟩ := bx_cells N1.out
  clear g1
  go_wp2_with fail
  refine (HM.out _ B1.out).mono ?_
  rintro e w2 ⟨rfl, g2⟩
  have N2 := Lib.hid (blk_keep g2 N1.out)
  have B2 := Lib.hid (belowT B1.out g2)
  clear g2 x4 xl
  obtain ⟨_, _, _, _, x4, xl⟩ := bx_cells N2.out
  cases r with
  | false =>
    go_wp2_with fail
    go_ret
    exact ⟨rfl, B2.out⟩
  | true =>
    have HT := Lib.hid (fun j c k W => take_next c k cap l lag closed j W HR.out.symm)
    have H8 : Hid (l.length ≤ 8) := mayX_len HR.out.symm
    obtain ⟨W4, hW4⟩ : ∃ W4, W4 = w2.alloc (.cells (bx ⟨cap, ⟨p, n, cp⟩, lag, closed⟩) 24) := ⟨_, rfl⟩
    have Z4 : Hid (W4.heap.size = w2.heap.size + 1) := by rw [hW4]; show _ = _; simp
    have B4 : Hid (Below w.heap.size w W4) := by rw [hW4]; exact belowT B2.out below1
    have N4 : Hid (W4.heap[w.heap.size]? = some (.cells (bx ⟨cap, ⟨p, n, cp⟩, lag, closed⟩) 24 (0, 0))) := by rw [hW4]; exact blk_keep below1 N2.out
    have C4 : Hid (W4.heap[w2.heap.size]? = some (.cells (bx ⟨cap, ⟨p, n, cp⟩, lag, closed⟩) 24 (0, 0))) := by rw [hW4]; exact heap_alloc_last w2 _
    have XL := Lib.hid xl
    have HW4 := Lib.hid hW4
    clear hW4
    go_wp2_with fail
    rw [← HW4.out]
    clear x4 xl
    go_loopw [5, 6] (fun u i wr => ∃ (j : Nat) (c : Bx) (k : List Nt), j ≤ n ∧ i = .int .i64 j ∧ OwnE Ent wr W4.heap.size u (l.take j) ∧ bp c k = ⟨cap, l.drop j, lag, closed⟩ ∧ wr.heap[w2.heap.size]? = some (.cells (bx c) 24 (0, 0)) ∧ SlE Ent wr (sv c.l) k ∧ wr.heap[w.heap.size]? = some (.cells (bx ⟨cap, ⟨p, n, cp⟩, lag, closed⟩) 24 (0, 0)) ∧ Below w.heap.size w wr ∧ W4.heap.size ≤ wr.heap.size) (fun _ i _ => n - (intOf i).toNat)
    case atStart => exact ⟨0, _, l, Nat.zero_le _, rfl, by simpa using ownE_nil Ent W4 _, rfl, C4.out, slE_keep B4.out HS.out, N4.out, B4.out, Nat.le_refl _⟩
    case round =>
      obtain ⟨j, c, k, hj, rfl, ho, hc, hcb, hcs, hb, hbb, hz⟩ := hrel
      have HO := Lib.hid ho
      have HC := Lib.hid hc
      have CB := Lib.hid hcb
      have CS := Lib.hid hcs
      have BB := Lib.hid hb
      have B5 := Lib.hid hbb
      have Z5 := Lib.hid hz
      obtain ⟨y0, y1, y2, y3, _, yl⟩ := bx_cells hb
      obtain ⟨z0, z1, z2, z3, z4, zl⟩ := bx_cells hcb
      dsimp only at y0 y1 y2 y3
      rw [sv_mk] at y1
      clear ho hc hcb hcs hb hbb hz
      by_cases hlt : j < n
      · have u1 : (j : Int) + 1 < 10000 := by have := H8.out; have := HL.out; omega
        have HLT := Lib.hid (show j < l.length by have := HL.out; omega)
        clear z0 z1 z2 z3
        go_wp2_with fail
        refine (HT.out j c k wr HLT.out HC.out CS.out).mono ?_
        rintro e w5 ⟨d, ld, rfl, ed, sd, fd, gd⟩
        have ED := Lib.hid ed
        have SD := Lib.hid sd
        have FD := Lib.hid fd
        have GD := Lib.hid gd
        clear ed sd fd gd y0 y1 y2 y3 z4
        generalize hx : itN l j = x
        have HX := Lib.hid hx
        clear hx
        go_wp2_with (
          at_builtin
          refine wpList_append_E Knt _ rfl (.tmp 36) (.tmp 38) rfl W4.heap.size _ (l.take j) rfl (ownE_alloc (ownE_alloc (ownE_alloc (ownE_keep GD.out HO.out) _) _) _) _ [x] rfl (slE_lit _ [x] 1 _ _ _ rfl (by simp) (by simp [cellsE, Ent, nt_list])) (by have := H8.out; simp; omega) (by have := Z5.out; have := GD.out.size; simp; omega) ?_
          intro v7 w7 ho7 hg7
          have hg : Gr (((w5.alloc (.cells (bx d) 24)).alloc (.cells (nt x) 31)).alloc (.cells (nt x) 31)) u5 w7 v7 := hg7
          have k6 : Below w5.heap.size w5 (((w5.alloc (.cells (bx d) 24)).alloc (.cells (nt x) 31)).alloc (.cells (nt x) 31)) := belowT (belowT below1 below1) below1
          have hlow : ∀ b, u5.ownBlock = some b → W4.heap.size ≤ b ∧ b < wr.heap.size := fun b e => ownE_lt HO.out e
          have hBW : w.heap.size < W4.heap.size := (Array.getElem?_eq_some_iff.1 N4.out).1
          have hzz := Z4.out
          have hzg := GD.out.size
          have D7 := Lib.hid (hg.heap (g := w5.heap.size) (blk_keep below1 (blk_keep below1 (heap_alloc_last w5 _))) (fun e => by have := hlow _ e; omega))
          have G7 := Lib.hid (hg.heap (g := w2.heap.size) (blk_keep k6 (blk_keep GD.out CB.out)) (fun e => by have := hlow _ e; omega))
          have A7 := Lib.hid (hg.heap (g := w.heap.size) (blk_keep k6 (blk_keep GD.out BB.out)) (fun e => by have := hlow _ e; omega))
          have O7 := Lib.hid ho7
          have S7 : Hid (SlE Ent w7 (sv d.l) ld) := slE_block (slE_keep k6 SD.out) hg.1.size (fun b hb1 hb2 => hg.block hb1 (fun e => by have := hlow b e; have := FD.out b hb2; omega))
          have B7 : Hid (Below w.heap.size w w7) := (belowT (belowT B5.out GD.out) k6).trans ((hg.own (ownE_alloc (ownE_alloc (ownE_alloc (ownE_keep GD.out HO.out) _) _) _) (by have := Z5.out; simp; omega)).mono (by omega))
          have Z7 : Hid (W4.heap.size ≤ w7.heap.size) := Nat.le_trans (Nat.le_trans Z5.out (Nat.le_trans hzg k6.size)) hg.1.size
          have HBW := Lib.hid hBW
          have f1 := ldA_block D7.out (bx_size _)
          have f2 := wrA_block G7.out (bx_size _)
          clear hg7 ho7 hg k6 hlow hBW hzz hzg)
        go_roundw
        case rel => exact ⟨j + 1, d, ld, by omega, by go_num, by rw [take_snocN l j HLT.out, HX.out]; exact ownE_stA O7.out (by rw [Z4.out]; exact Nat.lt_succ_self _), ED.out, heap_put G7.out (by rw [bx_size, bx_size]), slE_put_bx S7.out G7.out, (heap_stA (by have := HBW.out; have := XL.out; omega)).trans A7.out, below_stA B7.out (Nat.le_of_lt XL.out), by rw [size_stA]; exact Z7.out⟩
        case measure => simp [intOf]; omega
      · obtain rfl : j = n := by omega
        have hfull : l.take j = l := by rw [← HL.out]; exact List.take_length
        have hnone : l.drop j = [] := by rw [← HL.out]; exact List.drop_length
        have O5 : Hid (OwnE Ent wr W4.heap.size u5 l) := by have := HO.out; rwa [hfull] at this
        have hc' := HC.out
        rw [hnone] at hc'
        obtain ⟨⟨pc, nc, cc⟩, rfl, rfl⟩ := bp_eq hc'
        obtain rfl : nc = 0 := (sv_len CS.out).symm
        obtain ⟨p5, c5, rfl⟩ := ownE_len O5.out HL.out
        have HN := Lib.hid (notes_any ⟨p5, j, c5⟩ ⟨p, j, cp⟩ l l wr (ownE_slE O5.out) (slE_keep B5.out HS.out) (by have := H8.out; omega))
        rw [show decide (l = l) = true from decide_eq_true rfl] at HN
        clear hfull hnone hc' HO HC z0 z1 z2 z3 z4
        go_wp2_with fail
        refine HN.out.mono ?_
        rintro e w9 ⟨rfl, g9⟩
        obtain ⟨x0, x1, x2, x3, _, xl⟩ := bx_cells (blk_keep g9 BB.out)
        obtain ⟨z0, z1, z2, z3, _, zl⟩ := bx_cells (blk_keep g9 CB.out)
        dsimp only at x0 x1 x2 x3 z0 z1 z2 z3
        rw [sv_mk] at x1 z1
        have G9 := Lib.hid (belowT B5.out g9)
        clear g9
        go_wp2_with fail
        go_ret
        exact ⟨rfl, G9.out⟩
theorem boxTakes_walk (b : Bx) (l : List Nt) (w : World) (h : SlE Ent w (sv b.l) l) :
    Calls Try.prog 8 #[.agg (bx b)] w fun e w' => e = .returned (.bool true) ∧ Below w.heap.size w w' := by
  have hl := sv_len h
  obtain ⟨cap, ⟨p, n, cp⟩, lag, closed⟩ := b
  exact boxTakes_n cap p n cp lag closed l w h hl
end Go.Proofs.Ytiljgnhnpoackaa
