/-
  Package late: parted, walked whatever it is handed; Due.
-/
import Derived.Test.YtljehgohcchocaaR13Due
import Derived.Deep.Cut
import Derived.Laws.Cover3
namespace Go.Proofs.Ytljehgohcchocaa
open Go.RowKit
set_option maxRecDepth 100000

set_option maxRecDepth 100000 in
set_option maxHeartbeats 8000000 in
theorem lateParted (g : Nat) (lb : Array Value) (eg : ∀ args w, (callFunc g args).run Try.prog w = .ok (.enter g args) w) (now : Nat) (p : Option Addr) (n cp : Nat) (l : List Aa) (w : World) (h : SlE Eaa w (.slice p n cp) l) (hl : l.length = n) (hn : n ≤ 1000)
    (hp : ∀ (k : Nat) (W : World), k < n → Below w.heap.size w W → Calls Try.prog g (#[.agg (aa (att l k))] ++ lb) W fun e W' => e = .returned (.bool (decide (slA l k < now))) ∧ Below W.heap.size W W') :
    Calls Try.prog 21 #[.slice p n cp, .func (.func g) #[] lb] w (AttsTwo (dueL l now) (restL l now) w) := by
  have HS := Lib.hid h
  have HL := Lib.hid hl
  have HN := Lib.hid hn
  have HP := Lib.hid hp
  clear h hl hn hp
  go_enter Try.func21, Try.ntmps21
  go_wp2_with fail
  go_loopw [6, 7, 12] (fun u v i wr => ∃ j : Nat, j ≤ n ∧ i = .int .i64 (j : Int) ∧ OwnE Eaa wr w.heap.size u (dueUp l now j) ∧ OwnE Eaa wr w.heap.size v (restUp l now j) ∧ SepE u v ∧ Below w.heap.size w wr) (fun _ _ i _ => n - (intOf i).toNat)
  case atStart => exact ⟨0, Nat.zero_le _, rfl, by rw [show dueUp l now 0 = [] from rfl]; exact ownE_nil _ _ _, by rw [show restUp l now 0 = [] from rfl]; exact ownE_nil _ _ _, sep_nil _ _, Below.refl _ _⟩
  case round =>
    obtain ⟨j, hj, rfl, ho1, ho2, hs, hb⟩ := hrel
    have HO1 := Lib.hid ho1
    have HO2 := Lib.hid ho2
    have HSp := Lib.hid hs
    have HB := Lib.hid hb
    have HLe := Lib.hid (up_len (l := l) (now := now) (j := j))
    obtain ⟨pu, cu, rfl⟩ := ownE_shape ho1
    obtain ⟨pv, cv, rfl⟩ := ownE_shape ho2
    obtain ⟨m1, hm1⟩ : ∃ m1, m1 = (dueUp l now j).length := ⟨_, rfl⟩
    obtain ⟨m2, hm2⟩ : ∃ m2, m2 = (restUp l now j).length := ⟨_, rfl⟩
    rw [← hm1] at HO1 HSp HLe
    rw [← hm2] at HO2 HSp HLe
    rw [← hm1, ← hm2]
    have HM1 := Lib.hid hm1
    have HM2 := Lib.hid hm2
    clear ho1 ho2 hs hb hm1 hm2
    by_cases hlt : j < n
    · have i0 : (0 : Int) ≤ (j : Int) := by omega
      have i1 : (j : Int) < (n : Int) := by omega
      have u1 : (j : Int) + 1 < 10000 := by have := HN.out; omega
      obtain ⟨b1, o1, rfl, q1, x1⟩ := atts_ptr (slE_keep HB.out HS.out) (by have := HL.out; omega)
      have y2 := atts_ld x1 (i := j) (by have := HL.out; omega)
      have HLT := Lib.hid hlt
      have HU1 := Lib.hid (fun h => up_yes (l := l) (now := now) (j := j) (by have := HL.out; omega) h)
      have HU2 := Lib.hid (fun h => up_no (l := l) (now := now) (j := j) (by have := HL.out; omega) h)
      obtain ⟨x, hx⟩ : ∃ x, x = att l j := ⟨_, rfl⟩
      rw [← hx] at y2 HU1 HU2
      obtain ⟨W1, hW1⟩ : ∃ W1, W1 = wr.alloc (.cells (aa x) 29) := ⟨_, rfl⟩
      have hx1 : W1.heap[wr.heap.size]? = some (.cells (aa x) 29 (0, 0)) := by rw [hW1]; exact heap_alloc_last wr _
      have B1 : Hid (Below w.heap.size w W1) := by rw [hW1]; exact belowT HB.out below1
      have O1 := Lib.hid (ownE_alloc HO1.out (.cells (aa x) 29))
      have O2 := Lib.hid (ownE_alloc HO2.out (.cells (aa x) 29))
      rw [← hW1] at O1 O2
      have HX1 := Lib.hid hx1
      have z1 := ldA_block hx1 (aa_size x)
      have HQ := Lib.hid (HP.out j W1 hlt B1.out)
      rw [← hx] at HQ
      have HW := Lib.hid hW1
      clear x1 hlt hx q1 hW1 hx1
      go_upto_region 5 with fail
      rw [← HW.out]
      go_wp2_with fail
      refine HQ.out.mono ?_
      rintro e w2 ⟨rfl, g2⟩
      have G2 := Lib.hid (belowT B1.out g2)
      have P1 := Lib.hid (ownE_keep g2 O1.out)
      have P2 := Lib.hid (ownE_keep g2 O2.out)
      have z2 := ldA_block (blk_keep g2 HX1.out) (aa_size x)
      have Z : Hid (w.heap.size ≤ w2.heap.size) := G2.out.size
      clear g2 y2 z1
      by_cases hd : slA l j < now
      · rw [decide_eq_true hd]
        obtain ⟨e1, e2⟩ := HU1.out hd
        have E1 := Lib.hid e1
        have E2 := Lib.hid e2
        clear hd e1 e2
        go_wp2_with (at_builtin; go_loud (refine wpList_append_E Kaa _ rfl (.tmp 19) (.tmp 21) rfl w.heap.size _ _ rfl (ownE_alloc P1.out _) _ [x] rfl (aa_lit1 _ x _ (by simp)) (by rw [← HM1.out]; have := HLe.out.1; have := HLT.out; have := HN.out; simp; omega) (by have := Z.out; simp; omega) ?_; intro v4 w4 ho4 hg4; have O4 := Lib.hid ho4; have G4 := Lib.hid (Gr.alloc hg4); clear ho4 hg4))
        go_roundw
        case rel => exact ⟨j + 1, HLT.out, by go_num, by rw [E1.out]; exact O4.out, by rw [E2.out]; exact ownE_left HSp.out P2.out G4.out, sepE_left HSp.out P2.out G4.out, G2.out.trans (G4.out.own P1.out Z.out)⟩
        case measure => simp [intOf]; have := HLT.out; omega
      · rw [decide_eq_false hd]
        obtain ⟨e1, e2⟩ := HU2.out hd
        have E1 := Lib.hid e1
        have E2 := Lib.hid e2
        clear hd e1 e2
        go_wp2_with (at_builtin; go_loud (refine wpList_append_E Kaa _ rfl (.tmp 23) (.tmp 25) rfl w.heap.size _ _ rfl (ownE_alloc P2.out _) _ [x] rfl (aa_lit1 _ x _ (by simp)) (by rw [← HM2.out]; have := HLe.out.2; have := HLT.out; have := HN.out; simp; omega) (by have := Z.out; simp; omega) ?_; intro v4 w4 ho4 hg4; have O4 := Lib.hid ho4; have G4 := Lib.hid (Gr.alloc hg4); clear ho4 hg4))
        go_roundw
        case rel => exact ⟨j + 1, HLT.out, by go_num, by rw [E1.out]; exact ownE_right HSp.out P1.out G4.out, by rw [E2.out]; exact O4.out, sepE_right HSp.out P1.out G4.out, G2.out.trans (G4.out.own P2.out Z.out)⟩
        case measure => simp [intOf]; have := HLT.out; omega
    · obtain rfl : j = n := by omega
      obtain ⟨e1, e2⟩ := up_all (now := now) HL.out
      rw [e1] at HO1
      rw [e2] at HO2
      clear hlt e1 e2
      go_wp2_with fail
      go_ret2
      exact ⟨_, _, rfl, ownE_slE HO1.out, ownE_slE HO2.out, HB.out⟩

set_option maxRecDepth 100000 in
set_option maxHeartbeats 1000000 in
theorem lateIsDue (x : Aa) (now a : Nat) (w : World) (hz : w.cell? ⟨a, 0, none⟩ = some (.int .u64 (now : Int))) (ha : a < w.heap.size) : Calls Try.prog 22 #[.agg (aa x), .pointer (some ⟨a, 0, none⟩)] w fun e w' => e = .returned (.bool (decide (x.slot.toNat < now))) ∧ Below w.heap.size w w' := by
  obtain ⟨W, hW⟩ : ∃ W, W = w.alloc (.cells (aa x) 29) := ⟨_, rfl⟩
  have hx : W.heap[w.heap.size]? = some (.cells (aa x) 29 (0, 0)) := by rw [hW]; exact heap_alloc_last w _
  have HB : Hid (Below w.heap.size w W) := by rw [hW]; exact below1
  have z := aa_rd0_slot hx
  unfold num at z
  have z2 : W.cell? ⟨a, 0, none⟩ = some (.int .u64 (now : Int)) := by rw [HB.out.cell ha]; exact hz
  obtain ⟨y, hy⟩ : ∃ y, y = x.slot.toNat := ⟨_, rfl⟩
  rw [← hy] at z
  rw [← hy]
  obtain ⟨b, hb⟩ : ∃ b, b = decide (y < now) := ⟨_, rfl⟩
  rw [← hb]
  have t0 : decide ((y : Int) < (now : Int)) = b := by rw [hb]; exact decide_eq_decide.2 (by omega)
  have t1 : decide (y < now) = b := hb.symm
  have HW := Lib.hid hW
  clear hx hW hb hy hz ha
  go_enter Try.func22, Try.ntmps22
  go_upto_region 1 with fail
  rw [← HW.out]
  go_wp2_with fail
  go_ret
  exact ⟨by first | rfl | simp [t1], HB.out⟩
theorem enters_lateIsDue : ∀ args w, (callFunc 22 args).run Try.prog w = .ok (.enter 22 args) w := entersE Try.func22 (by kernel_rfl) (by kernel_rfl)

set_option maxRecDepth 100000 in
set_option maxHeartbeats 1000000 in
theorem latDueP_n (p : Option Addr) (n cp : Nat) (l : List Aa) (now : Nat) (w : World) (h : SlE Eaa w (.slice p n cp) l) (hl : l.length = n) (hn : n ≤ 1000) :
    Calls Try.prog 11 #[.slice p n cp, .int .u64 (now : Int)] w (AttsTwo (dueL l now) (restL l now) w) := by
  obtain ⟨W, hW⟩ : ∃ W, W = w.alloc (.cells #[.int .u64 (now : Int)] 23) := ⟨_, rfl⟩
  have HB : Hid (Below w.heap.size w W) := by rw [hW]; exact below1
  have hz : W.cell? ⟨w.heap.size, 0, none⟩ = some (.int .u64 (now : Int)) := by rw [hW]; exact cell_of_row _ _ _ _ _ _ (heap_alloc_last w _)
  have hsz : w.heap.size < W.heap.size := by rw [hW]; simp
  have HP := Lib.hid (lateParted 22 #[.pointer (some ⟨w.heap.size, 0, none⟩)] enters_lateIsDue now p n cp l W (slE_keep HB.out h) hl hn
    (fun k W' _ g => lateIsDue _ now _ W' (by rw [g.cell hsz]; exact hz) (Nat.lt_of_lt_of_le hsz g.size)))
  have HW := Lib.hid hW
  clear h hl hn hW hz hsz
  go_enter Try.func11, Try.ntmps11
  go_upto_region 1 with fail
  rw [← HW.out]
  go_wp2_with fail
  refine HP.out.mono ?_
  rintro e w1 ⟨v1, v2, rfl, h1, h2, g⟩
  have H1 := Lib.hid h1
  have H2 := Lib.hid h2
  have HG := Lib.hid (belowT HB.out g)
  clear h1 h2 g
  go_wp2_with fail
  go_ret2
  exact ⟨_, _, rfl, H1.out, H2.out, HG.out⟩
theorem latDueP (v : Value) (l : List Aa) (now : Nat) (w : World) (h : SlE Eaa w v l) (hn : l.length ≤ 1000) :
    Calls Try.prog 11 #[v, .int .u64 (now : Int)] w (AttsTwo (dueL l now) (restL l now) w) := by
  have k := h
  obtain ⟨p, cp, rfl, _⟩ := slE_shape h
  exact latDueP_n p _ cp l now w k rfl hn
end Go.Proofs.Ytljehgohcchocaa
