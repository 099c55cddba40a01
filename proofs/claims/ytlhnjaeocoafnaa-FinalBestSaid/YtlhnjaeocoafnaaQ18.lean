/-
  The document's trees: whether a place is one, walked.
  The document's trees: who is above whom, walked.
  The document's: is a checkpoint behind another one? walked. (written by wip/gen/ref16.py)
  Which of two roots is less: the document's own, walked.
  []uint64: append, s[n:], an argument; in any translation that has it. (written by wip/mkslice.py)
  Lists of numbers of 64 bits in memory.
-/
import Derived.Test.YtlhnjaeocoafnaaQ17
import Derived.Test.YtlhnjaeocoafnaaQ14
import Derived.Test.YtlhnjaeocoafnaaQ16
import Derived.Deep.Cut
import Derived.Deep.CutRange
import Derived.Deep.RegionLaw
import Derived.Test.YtlhnjaeocoafnaaQ01
import Derived.Test.YtlhnjaeocoafnaaQ05
import Derived.Test.YtlhnjaeocoafnaaQ06
import Derived.Test.YtlhnjaeocoafnaaQ02
import Derived.Outline
import Derived.Deep.QuietTactic
import Derived.BigQuiet
import Derived.Lib.Hide
import Derived.Test.YtlhnjaeocoafnaaQ12
import Derived.Test.YtlhnjaeocoafnaaQ07
import Derived.Test.YtlhnjaeocoafnaaQ10
namespace Go.Proofs.Ytlhnjaeocoafnaa
open Go.RowKit
set_option maxRecDepth 100000

set_option maxRecDepth 100000 in
set_option maxHeartbeats 4000000 in
theorem refIs (s : SlV) (l : List Nd) (i : Int) (w : World) (h : SlE Ene w (sv s) l) (hn : l.length ≤ 1000) :
    Calls Try.prog 89 #[.agg (tr ⟨s⟩), .int .i64 i] w fun e w' => e = .returned (.bool (isT l i)) ∧ Below w.heap.size w w' := by
  have HN : Hid (l.length ≤ 1000) := Lib.hid hn
  have HM := Lib.hid (fun W (g : Below w.heap.size w W) => refMayT s l W (slE_keep g h) hn)
  have hl := sv_lenN h
  obtain ⟨p, n, cp⟩ := s
  dsimp only at hl
  obtain ⟨r, hr⟩ : ∃ r, r = decide (MayT l) := ⟨_, rfl⟩
  rw [← hr] at HM
  obtain ⟨x, hx⟩ : ∃ x, x = isT l i := ⟨_, rfl⟩
  rw [← hx]
  have HX : Hid (x = (r && (decide (0 ≤ i) && decide (i < (n : Int))))) := by rw [hx, hr]; unfold isT; rw [hl]; rfl
  obtain ⟨W0, hW0⟩ : ∃ W0, W0 = w.alloc (.cells (tr ⟨⟨p, n, cp⟩⟩) 24) := ⟨_, rfl⟩
  have HB : Hid (Below w.heap.size w W0) := by rw [hW0]; exact below1
  have M0 : Hid (W0.heap[w.heap.size]? = some (.cells (tr ⟨⟨p, n, cp⟩⟩) 24 (0, 0))) := by rw [hW0]; exact heap_alloc_last w _
  have HW := Lib.hid hW0
  clear hW0 h hl hn hr hx
  go_enter Try.func89, Try.ntmps89
  go_wp2_with fail
  rw [← HW.out]
  refine (HM.out W0 HB.out).mono ?_
  rintro e w1 ⟨rfl, g1⟩
  have G1 := Lib.hid (belowT HB.out g1)
  obtain ⟨z0, z1, zl⟩ := tr_cells (blk_keep g1 M0.out)
  dsimp only at z0
  rw [sv_mk] at z0
  cases r
  · go_wp2_with fail
    go_ret
    exact ⟨by rw [HX.out]; rfl, G1.out⟩
  · by_cases h0 : 0 ≤ i
    · have t0 : decide (0 ≤ i) = true := decide_eq_true h0
      by_cases h1 : i < (n : Int)
      · have t1 : decide (i < (n : Int)) = true := decide_eq_true h1
        have hX : Hid (x = true) := by show x = true; rw [HX.out, t0, t1]; rfl
        clear h0 h1
        go_wp2_with fail
        go_ret
        exact ⟨by rw [hX.out]; first | done | rfl, G1.out⟩
      · have t1 : decide (i < (n : Int)) = false := decide_eq_false h1
        have hX : Hid (x = false) := by show x = false; rw [HX.out, t0, t1]; rfl
        clear h0 h1
        go_wp2_with fail
        go_ret
        exact ⟨by rw [hX.out]; first | done | rfl, G1.out⟩
    · have t0 : decide (0 ≤ i) = false := decide_eq_false h0
      have hX : Hid (x = false) := by show x = false; rw [HX.out, t0]; rfl
      clear h0
      go_wp2_with fail
      go_ret
      exact ⟨by rw [hX.out]; first | done | rfl, G1.out⟩
end Go.Proofs.Ytlhnjaeocoafnaa
namespace Go.Proofs.Ytlhnjaeocoafnaa
open Go.RowKit
set_option maxRecDepth 100000

set_option maxRecDepth 100000 in
set_option maxHeartbeats 4000000 in
theorem refAbove (s : SlV) (l : List Nd) (i k : Int) (w : World) (h : SlE Ene w (sv s) l) (hn : l.length ≤ 1000) :
    Calls Try.prog 68 #[.agg (tr ⟨s⟩), .int .i64 i, .int .i64 k] w fun e w' => e = .returned (.bool (aboveZ l i k)) ∧ Below w.heap.size w w' := by
  have HI := Lib.hid (fun W (g : Below w.heap.size w W) => refIs s l i W (slE_keep g h) hn)
  have HK := Lib.hid (fun W (g : Below w.heap.size w W) => refIs s l k W (slE_keep g h) hn)
  have HL := Lib.hid (sv_lenN h)
  obtain ⟨p, n, cp⟩ := s
  dsimp only at HL
  obtain ⟨x, hx⟩ : ∃ x, x = aboveZ l i k := ⟨_, rfl⟩
  rw [← hx]
  have HX := Lib.hid hx
  obtain ⟨a, ha⟩ : ∃ a, a = isT l i := ⟨_, rfl⟩
  obtain ⟨b, hb⟩ : ∃ b, b = isT l k := ⟨_, rfl⟩
  rw [← ha] at HI
  rw [← hb] at HK
  obtain ⟨W0, hW0⟩ : ∃ W0, W0 = w.alloc (.cells (tr ⟨⟨p, n, cp⟩⟩) 24) := ⟨_, rfl⟩
  have HB : Hid (Below w.heap.size w W0) := by rw [hW0]; exact below1
  have M0 : Hid (W0.heap[w.heap.size]? = some (.cells (tr ⟨⟨p, n, cp⟩⟩) 24 (0, 0))) := by rw [hW0]; exact heap_alloc_last w _
  have HS := Lib.hid h
  have HW := Lib.hid hW0
  have HXF : Hid (a = false → x = false) := fun e => by rw [HX.out]; unfold aboveZ; rw [← ha, e]; rfl
  have HXG : Hid (b = false → x = false) := fun e => by rw [HX.out]; unfold aboveZ; rw [← hb, e, Bool.and_false]; rfl
  have HA := Lib.hid ha
  have HBB := Lib.hid hb
  clear hW0 h hn hx ha hb
  go_enter Try.func68, Try.ntmps68
  go_wp2_with fail
  rw [← HW.out]
  refine (HI.out W0 HB.out).mono ?_
  rintro e w1 ⟨rfl, g1⟩
  have G1 := Lib.hid g1
  obtain ⟨z0, z1, zl⟩ := tr_cells (blk_keep g1 M0.out)
  dsimp only at z0
  rw [sv_mk] at z0
  clear g1
  go_wp2_with fail
  refine (HK.out w1 (belowT HB.out G1.out)).mono ?_
  rintro e w2 ⟨rfl, g2⟩
  have G2 := Lib.hid (belowT (belowT HB.out G1.out) g2)
  have G3 := Lib.hid (belowT G1.out g2)
  clear z0 z1 zl g2
  obtain ⟨z0, z1, zl⟩ := tr_cells (blk_keep G3.out M0.out)
  dsimp only at z0
  rw [sv_mk] at z0
  cases a
  · have hX : Hid (x = false) := HXF.out rfl
    go_wp2_with fail
    go_ret
    exact ⟨by rw [hX.out]; first | done | rfl, G2.out⟩
  · cases b
    · have hX : Hid (x = false) := HXG.out rfl
      go_wp2_with fail
      go_ret
      exact ⟨by rw [hX.out]; first | done | rfl, G2.out⟩
    · obtain ⟨hm, hi0, hi1⟩ := isT_iff.1 HA.out.symm
      obtain ⟨_, hk0, hk1⟩ := isT_iff.1 HBB.out.symm
      obtain ⟨i', rfl⟩ : ∃ i' : Nat, i = i' := ⟨i.toNat, by omega⟩
      obtain ⟨k', rfl⟩ : ∃ k' : Nat, k = k' := ⟨k.toNat, by omega⟩
      have HX' : Hid (x = aboveT l i' k') := by show x = _; rw [HX.out, aboveZ_nat hm (by omega) (by omega)]
      have HM := Lib.hid hm
      have HI1 : Hid (i' < n) := by show i' < n; have := HL.out; omega
      have HK1 : Hid (k' < n) := by show k' < n; have := HL.out; omega
      clear hi0 hi1 hk0 hk1 HXF HXG HX HA HBB HI HK
      obtain ⟨b1, o1, rfl, q1, x1⟩ := slE_ptr HS.out hm.pos
      have X1 := Lib.hid (keepR G2.out x1)
      clear hm x1
      have u0 : (i' : Int) < 10000 := by have := HI1.out; have := HM.out.le; have := HL.out; omega
      have u00 : (0 : Int) ≤ (i' : Int) := by omega
      go_wp2_with fail
      go_loop [2] (fun v => ∃ m : Nat, m < n ∧ v = .int .i64 (m : Int) ∧ aboveT l i' m = aboveT l i' k') (fun v => (intOf v).toNat)
      case atStart => exact ⟨k', HK1.out, rfl, rfl⟩
      case round =>
        obtain ⟨m, hmn, rfl, hab⟩ := hrel
        have HAB := Lib.hid hab
        have HMN := Lib.hid hmn
        clear hab hmn
        have u1 : (m : Int) < (n : Int) := by have := HMN.out; omega
        have u2 : (0 : Int) ≤ (m : Int) := by omega
        by_cases hlt : i' < m
        · have t1 : decide ((i' : Int) < (m : Int)) = true := by rw [decide_eq_true_iff]; omega
          obtain ⟨hp, hu, _⟩ := HM.out.par (k := m) (by omega) (by have := HL.out; have := HMN.out; omega)
          have y1 := nds_par X1.out (i := m) (by have := HL.out; have := HMN.out; omega)
          rw [hp] at y1
          have HU := Lib.hid hu
          have HLT := Lib.hid hlt
          clear hp hu hlt
          go_wp2_with fail
          go_round
          case rel => exact ⟨up l m, by have := HU.out; have := HMN.out; omega, rfl, by
            rw [← HAB.out, above_up HM.out i' (k := m) (by have := HLT.out; omega) (by have := HL.out; have := HMN.out; omega), if_pos HLT.out]⟩
          case measure => have := HU.out; simp [intOf]; omega
        · have t1 : decide ((i' : Int) < (m : Int)) = false := by rw [decide_eq_false_iff_not]; omega
          have t1' : decide (i' < m) = false := decide_eq_false hlt
          have HR : Hid (x = ((m : Int) == (i' : Int))) := by
            show x = _
            rw [HX'.out, ← HAB.out, above_stop HM.out (by have := HL.out; have := HMN.out; omega) hlt, Bool.eq_iff_iff, decide_eq_true_iff, beq_iff_eq]
            omega
          clear hlt
          go_wp2_with fail
          go_ret
          exact ⟨by rw [HR.out]; first | done | rfl, G2.out⟩
end Go.Proofs.Ytlhnjaeocoafnaa
namespace Go.Proofs.Ytlhnjaeocoafnaa
open Go.RowKit
set_option maxRecDepth 100000

theorem enters_refFind : ∀ args w, (callFunc 69 args).run Try.prog w = .ok (.enter 69 args) w := entersE Try.func69 (by kernel_rfl) (by kernel_rfl)
theorem enters_refAbove : ∀ args w, (callFunc 68 args).run Try.prog w = .ok (.enter 68 args) w := entersE Try.func68 (by kernel_rfl) (by kernel_rfl)
set_option maxRecDepth 100000 in
set_option maxHeartbeats 8000000 in
theorem ref16Behind (s : SlV) (l : List Nd) (c d : Ck) (w : World) (h : SlE Ene w (sv s) l) (hn : l.length ≤ 1000) :
    Calls Try.prog 41 #[.agg (tr ⟨s⟩), .agg (cc c), .agg (cc d)] w fun e w' => e = .returned (.bool (behindB l c d)) ∧ Below w.heap.size w w' := by
  have HF := Lib.hid (fun r W (g : Below w.heap.size w W) => refFind s l r W (slE_keep g h) hn)
  have HA := Lib.hid (fun W (g : Below w.heap.size w W) => refAbove s l (findT l d.root) (findT l c.root) W (slE_keep g h) hn)
  obtain ⟨r, hr⟩ : ∃ r, r = behindB l c d := ⟨_, rfl⟩
  rw [← hr]
  rw [show aboveZ l (findT l d.root) (findT l c.root) = r from hr.symm] at HA
  have HFc := Lib.hid (HF.out c.root)
  have HFd := Lib.hid (HF.out d.root)
  generalize findT l c.root = x at *
  generalize findT l d.root = y at *
  obtain ⟨W0, hW0⟩ : ∃ W0, W0 = ((w.alloc (.cells (tr ⟨s⟩) 24)).alloc (.cells (cc c) 32)).alloc (.cells (cc d) 32) := ⟨_, rfl⟩
  obtain ⟨hB, k0, k1, k2, hz0⟩ := heap3 w _ _ _ _ _ _ W0 hW0
  have HB := Lib.hid hB
  have HW := Lib.hid hW0
  have z0 := (tr_cells k0).2.1
  have z1 := cc_rd0_root k1
  have z2 := cc_rd0_root k2
  clear hW0 h hn hB k0 k1 k2 hz0 hr HF
  go_enter Try.func41, Try.ntmps41
  go_upto_region 1 with fail
  rw [← HW.out]
  have L0 := fun p : Wd W0.drew => wd_ld z0 (by decide) p
  have L1 := fun p : Wd W0.drew => wd_ld z1 (by decide) p
  have L2 := fun p : Wd W0.drew => wd_ld z2 (by decide) p
  clear z0 z1 z2
  refine wp_region_lex [4, 8, 9] (by kernel_rfl) (by kernel_rfl) (by kernel_rfl) ?_
  repeat (first | (refine wpXL_quiet rfl rfl _ cls_begin ?_; (first | go_big_quiet_step (fail) | quiet_step (fail)); refine wpQuiet_nil ?_) | refine wpXL_skip rfl ?_)
  refine wpXL_call rfl rfl rfl enters_refFind #[.agg (tr ⟨s⟩), .agg (rc d.root)] rfl ?_
  refine (HFd.out _ (belowT HB.out (belowD (Below.refl _ _) 1))).mono ?_
  rintro e u ⟨rfl, g⟩
  refine ⟨_, rfl, g, ?_⟩
  simp only [Act.put, List.setIfInBounds_toArray, List.set_cons_zero, List.set_cons_succ]
  have G : Hid (Below W0.heap.size W0 u) := belowT (belowD (Below.refl _ _) 1) g
  clear g
  repeat (first | (refine wpXL_quiet rfl rfl _ cls_begin ?_; (first | go_big_quiet_step (fail) | quiet_step (fail)); refine wpQuiet_nil ?_) | refine wpXL_skip rfl ?_)
  refine wpXL_call rfl rfl rfl enters_refFind #[.agg (tr ⟨s⟩), .agg (rc c.root)] rfl ?_
  refine (HFc.out _ (belowT HB.out G.out)).mono ?_
  rintro e u2 ⟨rfl, g⟩
  refine ⟨_, rfl, g, ?_⟩
  simp only [Act.put, List.setIfInBounds_toArray, List.set_cons_zero, List.set_cons_succ]
  replace G : Hid (Below W0.heap.size W0 u2) := belowT G.out g
  clear g
  repeat (first | (refine wpXL_quiet rfl rfl _ cls_begin ?_; (first | go_big_quiet_step (fail) | quiet_step (fail)); refine wpQuiet_nil ?_) | refine wpXL_skip rfl ?_)
  refine wpXL_call rfl rfl rfl enters_refAbove #[.agg (tr ⟨s⟩), .int .i64 y, .int .i64 x] rfl ?_
  refine (HA.out _ (belowT HB.out G.out)).mono ?_
  rintro e u3 ⟨rfl, g⟩
  refine ⟨_, rfl, g, ?_⟩
  simp only [Act.put, List.setIfInBounds_toArray, List.set_cons_zero, List.set_cons_succ]
  replace G : Hid (Below W0.heap.size W0 u3) := belowT G.out g
  clear g
  repeat (first | (refine wpXL_quiet rfl rfl _ cls_begin ?_; (first | go_big_quiet_step (fail) | quiet_step (fail)); refine wpQuiet_nil ?_) | refine wpXL_skip rfl ?_)
  refine wpXL_nil ?_
  clear L0 L1 L2
  go_wp2_with fail
  go_ret
  exact ⟨rfl, belowT HB.out G.out⟩
theorem enters_ref16Behind : ∀ args w, (callFunc 41 args).run Try.prog w = .ok (.enter 41 args) w := entersE Try.func41 (by kernel_rfl) (by kernel_rfl)
end Go.Proofs.Ytlhnjaeocoafnaa
namespace Go.Proofs.Ytlhnjaeocoafnaa
open Go.RowKit
set_option maxRecDepth 100000

set_option maxHeartbeats 1000000 in
theorem ref02Less (a b : Rt) (w : World) :
    Calls Try.prog 71 #[.agg (rc a), .agg (rc b)] w fun e w' => e = .returned (.bool (lessR a b)) ∧ Below w.heap.size w w' := by
  have hsa := rc_size a
  have hsb := rc_size b
  go_enter Try.func71, Try.ntmps71
  go_wp2
  go_loopw [5] (fun i wr => ∃ k n : Nat, k ≤ 32 ∧ i = .int .i64 k ∧ lessR a b = lessFrom a b k ∧ wr = ((w.alloc (.cells (rc a) 30)).alloc (.cells (rc b) 30)).drewN n) (fun i _ => 32 - (intOf i).toNat)
  case atStart => exact ⟨0, 0, by omega, rfl, rfl, rfl⟩
  case round =>
    obtain ⟨k, n, hk, rfl, hl, rfl⟩ := hrel
    have HL := Lib.hid hl; clear hl
    by_cases hlt : k < 32
    · have i0 : (0 : Int) ≤ (k : Int) := by omega
      have i1 : (k : Int) < 32 := by omega
      by_cases hs : at8 a k = at8 b k
      · have e : (at8 a k != at8 b k) = false := by simp [hs]
        have HE := Lib.hid (lessFrom_same a b k hlt hs); clear hs
        go_wp2
        go_quiet (fail)
        go_wp2
        go_roundw
        case rel => exact ⟨k + 1, _, by omega, by go_num, by rw [HL.out, HE.out], rfl⟩
        case measure => simp [intOf]; omega
      · have e : (at8 a k != at8 b k) = true := by simp [hs]
        have HE := Lib.hid (lessFrom_other a b k hlt hs); clear hs
        go_wp2
        go_quiet (fail)
        go_wp2
        go_quiet (fail)
        go_wp2
        go_ret
        exact ⟨by rw [HL.out, HE.out]; rfl, belowD (belowD (belowD lessB2 _) _) _⟩
    · obtain rfl : k = 32 := by omega
      go_wp2
      go_ret
      exact ⟨by rw [HL.out, lessFrom_end]; rfl, belowD lessB2 _⟩

theorem enters_ref02Less : ∀ args w, (callFunc 71 args).run Try.prog w = .ok (.enter 71 args) w := entersE Try.func71 (by kernel_rfl) (by kernel_rfl)
end Go.Proofs.Ytlhnjaeocoafnaa
namespace Go.Proofs.Ytlhnjaeocoafnaa
open Go.RowKit
set_option maxRecDepth 100000
theorem info_num : (Try.prog.info? 28).map (fun i => (i.zero, i.size, i.bytes)) = some (some (num 0), 1, 8) := by kernel_rfl
theorem Knum : Known Try.prog Enum 26 := ⟨Try.underlying26, num 0, 8, info_num, rfl, by decide⟩
@[go_sem ↓] theorem slice_from_num (ρ : Operand → Value) (dst : Option Tmp) (x lo : Operand) (ty : TypeId) (pos : String) (after : Array Edge) (guard : Option (Nat × Bool)) (w : World) :
    (execOp ρ { dst, op := .slice 26 x (some lo) none none, type := ty, pos, after, guard }).run Try.prog w = vOutE (cutFE 1 (ρ x) (ρ lo)) w (opRest Try.prog ρ { dst, op := .slice 26 x (some lo) none none, type := ty, pos, after, guard } w) :=
  slice_from_E Try.underlying26 Try.sizeOf28 ρ dst x lo ty pos after guard w
section
open Go.WideShapes Go.ChangeShapes
variable {H : Type} {enc : TypeId × Value → H} {w : World} {base : Nat} {sp : Nat → Bool} {held : Bool}
set_option maxRecDepth 100000 in
/-- A slice's one cell. -/
theorem cell_nums {fuel : Nat} {v : Value} {x : DataW H × List MemPlace} (h : DataW.trod enc Try.prog w base sp held fuel 26 [v] = some x) : ∃ l : List UInt64, SlE Enum w v l :=
  cells_E Try.underlying26 cellsOf_num (fun _ _ _ h => cells_num h) h
set_option maxRecDepth 100000 in
theorem cells_nums {fuel : Nat} {cs : List Value} {x : DataW H × List MemPlace} (h : DataW.trod enc Try.prog w base sp held fuel 26 cs = some x) : ∃ s : SlV, cs = [sv s] ∧ ∃ l : List UInt64, SlE Enum w (sv s) l := by
  rcases Deep.open_slice Try.underlying26 h with ⟨h1, _⟩ | ⟨a', len', cap', _, _, _, _, h1, _⟩
  · subst h1
    exact ⟨⟨none, 0, 0⟩, rfl, [], slE_nil _ _ _ _⟩
  · subst h1
    exact ⟨⟨some a', len', cap'⟩, rfl, cell_nums h⟩
set_option maxRecDepth 100000 in
theorem open_nums {r : Reach} {b0 : Nat} {v : Value} {d : DataW H} {ps : List MemPlace} (hval : Value.okWide Try.prog w r b0 26 v) (hd : DataW.Trod enc Try.prog w base sp held 26 v d ps) : ∃ l : List UInt64, SlE Enum w v l := by
  obtain ⟨a, len, cap, rfl⟩ := okWide_slice Try.underlying26 hval
  obtain ⟨fuel, hf⟩ := hd
  exact cell_nums hf
end
end Go.Proofs.Ytlhnjaeocoafnaa
namespace Go.Proofs.Ytlhnjaeocoafnaa
open Go.RowKit
set_option maxRecDepth 100000

theorem nums_cell {w : World} {b off : Nat} {a : List UInt64} (h : w.rangeAt b off (cellsE Enum a)) {i : Nat} (hi : i < a.length) : w.cell? ⟨b, off + i, none⟩ = some (.int .u64 (fn a i : Int)) := by
  have := cell_at h hi (j := 0) (v := num a[i]) rfl
  rw [fn_at hi]
  simpa [Enum, num] using this
theorem num_nat {v : Nat} (h : v < 18446744073709551616) : num (UInt64.ofNat v) = .int .u64 (v : Int) := by
  unfold num
  rw [UInt64.toNat_ofNat', Nat.mod_eq_of_lt h]
theorem nums_ptr {w : World} {p : Option Addr} {n cp : Nat} {a : List UInt64} (h : SlE Enum w (.slice p n cp) a) (h0 : 0 < a.length) : ∃ b o, p = some ⟨b, o, none⟩ ∧ b < w.heap.size ∧ w.rangeAt b o (cellsE Enum a) := by
  obtain ⟨b, o, c, e, _, q, x⟩ := slE_ne h h0
  injection e with e1 e2 e3
  exact ⟨b, o, e1, q, x⟩
theorem nums_one (w : World) {v : Nat} (h : v < 18446744073709551616) (b : Nat) (hb : b = w.heap.size) : SlE Enum (w.alloc (.cells #[.int .u64 (v : Int)] 28)) (.slice (some ⟨b, 0, none⟩) 1 1) [UInt64.ofNat v] :=
  slE_lit w [UInt64.ofNat v] 1 _ _ b rfl hb (by simp [cellsE, Enum, num_nat h])
/-- A list and whether. -/
def NumsOk (a : List UInt64) (ok : Bool) (w : World) (e : Ending) (w' : World) : Prop := ∃ v : Value, e = .returned (.tuple #[v, .bool ok]) ∧ OwnE Enum w' w.heap.size v a ∧ Below w.heap.size w w'
end Go.Proofs.Ytlhnjaeocoafnaa
