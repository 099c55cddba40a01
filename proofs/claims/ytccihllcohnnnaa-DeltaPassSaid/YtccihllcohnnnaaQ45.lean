/-
  Package weight: handOn, walked.
  Package weight: backward, over handOn, walked.
  A list of numbers of 64 bits: slices.Clone and slices.Equal, walked.
-/
import Derived.Test.YtccihllcohnnnaaQ41
import Derived.Test.YtccihllcohnnnaaQ30
import Derived.Test.YtccihllcohnnnaaQ20
import Derived.Test.YtccihllcohnnnaaQ44
import Derived.Test.YtccihllcohnnnaaQ16
import Derived.Test.YtccihllcohnnnaaQ15
import Derived.Laws.Cover3
namespace Go.Proofs.Ytccihllcohnnnaa
open Go.RowKit
set_option maxRecDepth 100000

theorem sm_cells {w : World} {g : Nat} {x : Sm} (h : w.heap[g]? = some (.cells (sm x) 80 (0, 0))) : w.cell? ⟨g, 0, none⟩ = some (sv x.t.n) ∧ w.cell? ⟨g, 1, none⟩ = some (sv x.l) ∧ ldA w (.pointer (some ⟨g, 0, none⟩)) 2 = some (sm x) ∧ g < w.heap.size :=
  ⟨sm_rd0_t_n h, sm_rd0_l h, ldA_block h (sm_size x), (Array.getElem?_eq_some_iff.1 h).1⟩
/-- The numbers when all from m on have handed on, in a row of the call's own. -/
structure HandM (w0 : World) (g n cp : Nat) (l : List Nd) (a : List UInt64) (m : Nat) (W : World) : Prop where
  below : Below w0.heap.size w0 W
  is : ∃ c, OwnE Enum W w0.heap.size (.slice (some ⟨g, 0, none⟩) n cp) c ∧ HandI l a m c

set_option maxRecDepth 100000 in
set_option maxHeartbeats 4000000 in
theorem handOn_zero (s : SlV) (g n cp : Nat) (l : List Nd) (a : List UInt64) (w0 w : World) (hm : MayT l) (h : HandM w0 g n cp l a 1 w) :
    Calls Try.prog 47 #[.agg (sm ⟨⟨s⟩, ⟨some ⟨g, 0, none⟩, n, cp⟩⟩), .int .i64 ((0 : Nat) : Int)] w fun e w' => e = .returned (.bool true) ∧ HandM w0 g n cp l a 0 w' := by
  have HH := Lib.hid h
  have HM := Lib.hid hm
  clear h hm
  go_enter Try.func47, Try.ntmps47
  go_wp2_with fail
  go_ret
  obtain ⟨c, h1, h2⟩ := HH.out.is
  exact ⟨rfl, belowT HH.out.below below1, c, ownE_alloc h1 _, handI_zero HM.out h2⟩

set_option maxRecDepth 100000 in
set_option maxHeartbeats 8000000 in
theorem handOn_pos (s : SlV) (g n cp : Nat) (l : List Nd) (a : List UInt64) (m : Nat) (w0 w : World) (hs : SlE Ene w0 (sv s) l) (hl : l.length = n) (hm : MayT l) (h : HandM w0 g n cp l a (m + 1) w) (h0 : 0 < m) (hmn : m < n) :
    Calls Try.prog 47 #[.agg (sm ⟨⟨s⟩, ⟨some ⟨g, 0, none⟩, n, cp⟩⟩), .int .i64 (m : Int)] w fun e w' => ∃ ok, e = .returned (.bool ok) ∧ (ok = true → HandM w0 g n cp l a m w') ∧ (ok = false → subOk l a = false ∧ Below w0.heap.size w0 w') := by
  obtain ⟨hb, c, ho, hi⟩ := h
  obtain ⟨e1, e2, _⟩ := hm.par h0 (by omega)
  obtain ⟨q, hq⟩ : ∃ q, q = up l m := ⟨_, rfl⟩
  have hc : c.length = n := by rw [hi.1, hl]
  obtain ⟨x, hx⟩ : ∃ x, x = fn c q := ⟨_, rfl⟩
  obtain ⟨y, hy⟩ : ∃ y, y = fn c m := ⟨_, rfl⟩
  have HA := Lib.hid (fun W => numAdd x y (by rw [hx]; exact fn_lt _ _) (by rw [hy]; exact fn_lt _ _) W)
  obtain ⟨W0, hW0⟩ : ∃ W0, W0 = w.alloc (.cells (sm ⟨⟨s⟩, ⟨some ⟨g, 0, none⟩, n, cp⟩⟩) 80) := ⟨_, rfl⟩
  have HB : Hid (Below w0.heap.size w0 W0) := by rw [hW0]; exact belowT hb below1
  have M0 : Hid (W0.heap[w.heap.size]? = some (.cells (sm ⟨⟨s⟩, ⟨some ⟨g, 0, none⟩, n, cp⟩⟩) 80 (0, 0))) := by rw [hW0]; exact heap_alloc_last w _
  have HO : Hid (OwnE Enum W0 w0.heap.size (.slice (some ⟨g, 0, none⟩) n cp) c) := by rw [hW0]; exact ownE_alloc ho _
  have HG : Hid (w0.heap.size ≤ g ∧ g < w.heap.size) := ownE_lt ho rfl
  have HW := Lib.hid hW0
  obtain ⟨p, k, cq⟩ := s
  obtain rfl : n = k := by have := sv_lenN hs; dsimp only at this; omega
  obtain ⟨b1, o1, rfl, hb1, x1⟩ := slE_ptr hs (by omega)
  have z4 := nds_par (keepR hb x1) (show m < l.length by omega)
  rw [e1, ← hq] at z4
  have y1 := ownN_cell ho (k := q) (by omega)
  have y2 := ownN_cell ho (k := m) (by omega)
  have l1 : b1 < w.heap.size := by have := hb.size; omega
  have l2 : g < w.heap.size := HG.out.2
  rw [← hx] at y1
  rw [← hy] at y2
  have t0 : ((m : Int) == 0) = false := by rw [beq_eq_false_iff_ne]; omega
  have i0 : (0 : Int) ≤ (m : Int) := by omega
  have i1 : (m : Int) < (n : Int) := by omega
  have i2 : (0 : Int) ≤ (q : Int) := by omega
  have i3 : (q : Int) < (n : Int) := by omega
  have HN := Lib.hid hmn
  have HC := Lib.hid hc
  have HS := Lib.hid (show addOk x y = true → HandI l a m (c.set q (UInt64.ofNat (addV x y))) from fun e => by
    have e' : x + y < 18446744073709551616 := of_decide_eq_true e
    rw [show addV x y = x + y from if_pos e', hx, hy, hq]
    exact handI_step hm h0 (by omega) hi (by rw [hx, hy, hq] at e'; exact e'))
  have HNot := Lib.hid (show addOk x y = false → subOk l a = false from fun e => by
    have e' : ¬ x + y < 18446744073709551616 := of_decide_eq_false e
    exact handI_not hm h0 (by omega) hi (by rw [hx, hy, hq] at e'; exact e'))
  have HX := Lib.hid hx
  have HY := Lib.hid hy
  have HM2 : Hid (m < c.length) := by show m < c.length; omega
  have HQ : Hid (q < c.length) := by show q < c.length; omega
  have HV : Hid (addV x y < 18446744073709551616) := by show addV x y < _; unfold addV; split <;> omega
  obtain ⟨v, hv⟩ : ∃ v, v = addV x y := ⟨_, rfl⟩
  obtain ⟨ok, hok⟩ : ∃ ok, ok = addOk x y := ⟨_, rfl⟩
  rw [← hv, ← hok] at HA
  rw [← hv, ← hok] at HS
  rw [← hok] at HNot
  rw [← hv] at HV
  clear hW0 hb ho hi e1 e2 hq hc hx hy hm hs hl h0 hmn hb1 x1 hv hok
  go_enter Try.func47, Try.ntmps47
  go_wp2_with fail
  rw [← HW.out]
  clear y1 y2
  obtain ⟨z0, z1, _, zl⟩ := sm_cells M0.out
  dsimp only at z0 z1
  rw [sv_mk] at z0 z1
  have y1 := ownN_cell HO.out HQ.out
  have y2 := ownN_cell HO.out HM2.out
  rw [← HX.out] at y1
  rw [← HY.out] at y2
  have La := fun p : Wd W0.drew => wd_cell z1 p
  have Lb := fun p : Wd W0.drew => wd_cell y1 p
  have Lc := fun p : Wd W0.drew => wd_cell y2 p
  refine wp_region_lex [10] (by kernel_rfl) (by kernel_rfl) (by kernel_rfl) ?_
  repeat (first | (refine wpXL_quiet rfl rfl _ cls_begin ?_; (first | go_big_quiet_step (fail) | quiet_step (fail)); refine wpQuiet_nil ?_) | refine wpXL_skip rfl ?_)
  refine wpXL_call rfl rfl rfl enters_numAdd #[.int .u64 (x : Int), .int .u64 (y : Int)] rfl ?_
  refine (HA.out _).mono ?_
  rintro e w1 ⟨rfl, g⟩
  refine ⟨_, rfl, g, ?_⟩
  simp only [Act.put, List.setIfInBounds_toArray, List.set_cons_zero, List.set_cons_succ]
  have g1 : Below W0.heap.size W0 w1 := belowT (belowD (Below.refl _ _) 1) g
  clear g
  repeat (first | (refine wpXL_quiet rfl rfl _ cls_begin ?_; (first | go_big_quiet_step (fail) | quiet_step (fail)); refine wpQuiet_nil ?_) | refine wpXL_skip rfl ?_)
  refine wpXL_nil ?_
  have G1 := Lib.hid (HB.out.trans (g1.mono HB.out.size))
  have O1 := Lib.hid (ownE_keep g1 HO.out)
  clear La Lb Lc y1 y2 z0 z1 zl z4
  obtain ⟨z0, z1, _, zl⟩ := sm_cells (blk_keep g1 M0.out)
  dsimp only at z0 z1
  rw [sv_mk] at z0 z1
  have y1 := ownN_cell O1.out HQ.out
  have y2 := ownN_frozen O1.out HC.out q
  clear g1
  go_wp2_with fail
  go_ret
  exact ⟨ok, rfl, fun e => ⟨G1.out.setCell (p := ⟨g, q, none⟩) HG.out.1 _, _, ownN_put O1.out HC.out q HV.out, HS.out e⟩, fun e => ⟨HNot.out e, G1.out.setCell (p := ⟨g, q, none⟩) HG.out.1 _⟩⟩
theorem enters_handOn : ∀ args w, (callFunc 47 args).run Try.prog w = .ok (.enter 47 args) w := entersE Try.func47 (by kernel_rfl) (by kernel_rfl)
end Go.Proofs.Ytccihllcohnnnaa
namespace Go.Proofs.Ytccihllcohnnnaa
open Go.RowKit
set_option maxRecDepth 100000

set_option maxRecDepth 100000 in
set_option maxHeartbeats 4000000 in
theorem backHand (x : Value) (p : Option Addr) (n cp : Nat) (w : World) (R : Nat → World → Prop) (B : World → Prop) (hn : n ≤ 1000)
    (H : ∀ m W, m < n → R (m + 1) W → Calls Try.prog 47 #[x, .int .i64 (m : Int)] W fun e w' => ∃ ok, e = .returned (.bool ok) ∧ (ok = true → R m w') ∧ (ok = false → B w'))
    (h : R n w) :
    Calls Try.prog 33 #[.slice p n cp, .func (.func 47) #[x] #[]] w fun e w' => ∃ v ok, e = .returned (.tuple #[v, .bool ok]) ∧ (ok = true → v = .slice p n cp ∧ R 0 w') ∧ (ok = false → v = .slice none 0 0 ∧ B w') := by
  have HH := Lib.hid H
  have HR := Lib.hid h
  have HN := Lib.hid hn
  clear H h hn
  go_enter Try.func33, Try.ntmps33
  go_wp2_with fail
  go_loopw [6, 9] (fun _ k wr => ∃ j : Nat, j ≤ n ∧ k = .int .i64 (j : Int) ∧ R (n - j) wr) (fun _ k _ => n - (intOf k).toNat)
  case atStart => exact ⟨0, Nat.zero_le _, rfl, HR.out⟩
  case round =>
    obtain ⟨j, hj, rfl, hr⟩ := hrel
    have KR := Lib.hid hr
    clear hr
    by_cases hlt : j < n
    · have i0 : (0 : Int) ≤ (j : Int) := by omega
      have i1 : (j : Int) < (n : Int) := by omega
      have u1 : (j : Int) + 1 < 10000 := by have := HN.out; omega
      have u2 : (n : Int) < 10000 := by have := HN.out; omega
      obtain ⟨m, hm⟩ : ∃ m, m = n - 1 - j := ⟨_, rfl⟩
      have hmi : (n : Int) - 1 - (j : Int) = (m : Int) := by omega
      have HC := Lib.hid (HH.out m wr (by omega) (by rw [show m + 1 = n - j by omega]; exact KR.out))
      have HM : Hid (n - (j + 1) = m) := by show n - (j + 1) = m; omega
      have HL := Lib.hid hlt
      clear hm hlt
      go_wp2_with fail
      refine HC.out.mono ?_
      rintro e w1 ⟨ok, rfl, hy, hz⟩
      have HY := Lib.hid hy
      have HZ := Lib.hid hz
      clear hy hz
      cases ok
      · go_wp2_with fail
        go_ret2
        exact ⟨_, _, rfl, (fun e => by cases e), (fun _ => ⟨rfl, HZ.out (by simp)⟩)⟩
      · go_wp2_with fail
        go_roundw
        case rel => exact ⟨j + 1, HL.out, by go_num, by rw [HM.out]; exact HY.out (by simp)⟩
        case measure => simp [intOf]; have := HL.out; omega
    · obtain rfl : j = n := by omega
      clear hlt
      go_wp2_with fail
      go_ret2
      exact ⟨_, _, rfl, (fun _ => ⟨rfl, by have := KR.out; rwa [Nat.sub_self] at this⟩), (fun e => by cases e)⟩
theorem enters_backHand : ∀ args w, (callFunc 33 args).run Try.prog w = .ok (.enter 33 args) w := entersE Try.func33 (by kernel_rfl) (by kernel_rfl)
end Go.Proofs.Ytccihllcohnnnaa
namespace Go.Proofs.Ytccihllcohnnnaa
open Go.RowKit
set_option maxRecDepth 100000

theorem eq_nilNum (p : Option Addr) (n cap : Nat) (w : World) : (binOp .eql 29 (.slice p n cap) (.slice none 0 0)).run Try.prog w = .ok (.bool p.isNone) w := by
  have h := run_equalIn_slice_nil (P := Try.prog) w 9999 29 26 p n cap Try.underlying29
  simp [binOp, Op.equal, Op.maxDepth, h]
theorem KnumB : KnownB Try.prog Enum 29 8 := ⟨Try.underlying29, num 0, info_num, rfl⟩
def SlIsU (l : List UInt64) (w : World) (e : Ending) (w' : World) : Prop := ∃ v, e = .returned v ∧ OwnE Enum w' w.heap.size v l ∧ Below w.heap.size w w'

set_option maxRecDepth 100000 in
set_option maxHeartbeats 1000000 in
theorem cloneNum_n (p : Option Addr) (n cap : Nat) (l : List UInt64) (w : World) (h : SlE Enum w (.slice p n cap) l) (hl : l.length = n) (hn : n * 8 ≤ 140737488355328) :
    Calls Try.prog 32 #[.slice p n cap] w (SlIsU l w) := by
  have HS := Lib.hid h
  have HL := Lib.hid hl
  have HN := Lib.hid hn
  cases p with
  | none =>
    have hn0 : l = [] := by
      obtain ⟨p, cap', e, _, h⟩ := h
      injection e with e
      subst e
      exact h.resolve_right (fun ⟨_, _, e, _⟩ => by cases e)
    have e : n = 0 := by rw [← hl, hn0]; rfl
    subst hn0 e
    clear HS h hl hn
    have he : ∀ w, (binOp .eql 29 (.slice none 0 cap) (.slice none 0 0)).run Try.prog w = .ok (.bool true) w := fun w => eq_nilNum none 0 cap w
    go_enter Try.func32, Try.ntmps32
    go_wp2_with fail
    go_ret
    exact ⟨_, rfl, ownE_nil _ _ _, Below.refl _ _⟩
  | some a =>
    have HO : Hid (OwnE Enum (w.alloc (.cells #[] 26)) w.heap.size (.slice (some ⟨w.heap.size, 0, none⟩) 0 0) []) := ownE_lit (E := Enum) w [] 0 rfl (by simp [maxLen]) #[] rfl _ rfl
    have HB : Hid (Below w.heap.size w (w.alloc (.cells #[] 26))) := below1
    clear h hl hn
    have he : ∀ w, (binOp .eql 29 (.slice (some a) n cap) (.slice none 0 0)).run Try.prog w = .ok (.bool false) w := fun w => eq_nilNum (some a) n cap w
    go_enter Try.func32, Try.ntmps32
    go_wp2_with (at_builtin; refine wpList_append_B KnumB _ rfl (.tmp 5) (.tmp 6) rfl w.heap.size _ [] rfl HO.out _ l rfl (slE_keep HB.out HS.out) (by have := HL.out; have := HN.out; simp [maxLen]; omega) (by have := HL.out; have := HN.out; simp; omega) (by simp) ?_; intro v2 w2 ho2 hg2)
    go_ret
    exact ⟨_, rfl, by simpa using ho2, HB.out.trans (hg2.own HO.out (by simp))⟩
theorem cloneNum (v : Value) (l : List UInt64) (w : World) (h : SlE Enum w v l) (hn : l.length * 8 ≤ 140737488355328) :
    Calls Try.prog 32 #[v] w (SlIsU l w) := by
  have k := h
  obtain ⟨p, cl, rfl, _⟩ := slE_shape h
  exact cloneNum_n p _ cl l w k rfl hn
theorem enters_cloneNum : ∀ args w, (callFunc 32 args).run Try.prog w = .ok (.enter 32 args) w := entersE Try.func32 (by kernel_rfl) (by kernel_rfl)
end Go.Proofs.Ytccihllcohnnnaa
