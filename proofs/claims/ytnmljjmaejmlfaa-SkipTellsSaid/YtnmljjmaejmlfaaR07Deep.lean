/-
  The document's leaps: how deep, walked.
-/
import Derived.Test.YtnmljjmaejmlfaaR07Is
import Derived.Test.YtnmljjmaejmlfaaSkipZ
namespace Go.Proofs.Ytnmljjmaejmlfaa
open Go.RowKit

set_option maxRecDepth 100000 in
set_option maxHeartbeats 4000000 in
theorem ref07Deep (s : SlV) (l : List Nd) (i : Int) (w : World) (h : SlE Ene w (sv s) l) (hn : l.length ≤ 1000) :
    Calls Try.prog 16 #[.agg (tr ⟨s⟩), .int .i64 i] w fun e w' => e = .returned (.int .i64 (deepZ l i)) ∧ Below w.heap.size w w' := by
  have HI := Lib.hid (fun W (g : Below w.heap.size w W) => ref07Is s l i W (slE_keep g h) hn)
  have HL := Lib.hid (sv_lenN h)
  obtain ⟨p, n, cp⟩ := s
  dsimp only at HL
  obtain ⟨a, ha⟩ : ∃ a, a = isT l i := ⟨_, rfl⟩
  rw [← ha] at HI
  obtain ⟨res, hres⟩ : ∃ res, res = deepZ l i := ⟨_, rfl⟩
  rw [← hres]
  obtain ⟨W0, hW0⟩ : ∃ W0, W0 = w.alloc (.cells (tr ⟨⟨p, n, cp⟩⟩) 24) := ⟨_, rfl⟩
  have HB : Hid (Below w.heap.size w W0) := by rw [hW0]; exact below1
  have M0 : Hid (W0.heap[w.heap.size]? = some (.cells (tr ⟨⟨p, n, cp⟩⟩) 24 (0, 0))) := by rw [hW0]; exact heap_alloc_last w _
  have HS := Lib.hid h
  have HW := Lib.hid hW0
  have HA := Lib.hid ha
  have HR := Lib.hid hres
  clear hW0 h ha hres hn
  go_enter Try.func16, Try.ntmps16
  go_wp2_with fail
  rw [← HW.out]
  refine (HI.out W0 HB.out).mono ?_
  rintro e w1 ⟨rfl, g1⟩
  have G1 := Lib.hid (belowT HB.out g1)
  have M1 := Lib.hid (blk_keep g1 M0.out)
  clear g1
  cases a
  · have hX : Hid (res = -1) := by show _ = _; rw [HR.out]; unfold deepZ; rw [if_neg (by rw [← HA.out]; exact Bool.false_ne_true)]
    go_wp2_with fail
    go_ret
    exact ⟨by rw [hX.out]; first | done | rfl, G1.out⟩
  · obtain ⟨hmay, hi0, hi1⟩ := isT_iff.1 HA.out.symm
    obtain ⟨i', rfl⟩ : ∃ i' : Nat, i = i' := ⟨i.toNat, by omega⟩
    have HMm := Lib.hid hmay
    have HN : Hid (n ≤ 12) := by show n ≤ 12; have := hmay.le; have := HL.out; omega
    have HR2 : Hid (res = (deepT l i' : Int)) := by show _ = _; rw [HR.out, deepZ_nat hmay (by omega)]
    have HI2 : Hid (i' < n) := by show i' < n; have := HL.out; omega
    obtain ⟨b1, o1, rfl, q1, x1⟩ := slE_ptr HS.out hmay.pos
    have X1 := Lib.hid (keepR G1.out x1)
    clear hmay hi0 hi1 q1 x1
    go_wp2_with fail
    go_loopw [1, 6] (fun c k wr => ∃ (x j : Nat), x < n ∧ c = .int .i64 (x : Int) ∧ k = .int .i64 (j : Int) ∧ j + deepT l x = deepT l i' ∧ j + x ≤ i' ∧ Below w1.heap.size w1 wr) (fun c _ _ => (intOf c).toNat)
    case atStart => exact ⟨i', 0, HI2.out, rfl, rfl, by omega, by omega, Below.refl _ _⟩
    case round =>
      obtain ⟨x, j, hx, rfl, rfl, hd, hji, hb⟩ := hrel
      have HD := Lib.hid hd
      have HJI := Lib.hid hji
      have HX := Lib.hid hx
      have HBB := Lib.hid hb
      obtain ⟨z0, z1, zl⟩ := tr_cells (blk_keep hb M1.out)
      dsimp only at z0
      rw [sv_mk] at z0
      clear hd hji hb hx
      by_cases h0 : 0 < x
      · have t1 : decide ((0 : Int) < (x : Int)) = true := decide_eq_true (by omega)
        have t1' : decide (0 < x) = true := decide_eq_true h0
        have i0 : (0 : Int) ≤ (x : Int) := by omega
        have i1 : (x : Int) < (n : Int) := by have := HX.out; omega
        have u1 : (j : Int) + 1 < 10000 := by have := HJI.out; have := HI2.out; have := HN.out; omega
        have hxl : x < l.length := by have := HX.out; have := HL.out; omega
        have y1 := nds_par (keepR HBB.out X1.out) (i := x) hxl
        obtain ⟨e1, e2, _⟩ := HMm.out.par h0 hxl
        rw [e1] at y1
        have HU : Hid (up l x < x) := e2
        have HDU : Hid (deepT l x = deepT l (up l x) + 1) := deep_up HMm.out h0 hxl
        clear e1 e2 hxl h0
        go_wp2_with fail
        go_roundw
        case rel => exact ⟨up l x, j + 1, by have := HU.out; have := HX.out; omega, rfl, by go_num, by have := HD.out; have := HDU.out; omega, by have := HJI.out; have := HU.out; omega, HBB.out⟩
        case measure => simp [intOf]; have := HU.out; omega
      · obtain rfl : x = 0 := by omega
        have hX : Hid (res = (j : Int)) := by
          show _ = _
          rw [HR2.out, ← HD.out, deep_zero]
          rfl
        clear h0
        go_wp2_with fail
        go_ret
        exact ⟨by rw [hX.out]; first | done | rfl, belowT G1.out HBB.out⟩
end Go.Proofs.Ytnmljjmaejmlfaa
