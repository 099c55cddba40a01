/-
  A root's literal with one byte; a root of one byte.
  A root's literal with one byte; a root of one byte; three nodes in a row.
  What is asked of package final's functions (contracts, by name); the laws' own links. (written by wip/gen/ref16.py)
  What functions on trees answer.
  The law's own tree of three nodes, in any seat that holds areopaguslaw06.Three (XThree06 without what stage 6 alone asks).
-/
import Derived.Test.YtlhnjaeocoafnaaQ07
import Derived.Test.YtlhnjaeocoafnaaQ15
import Derived.Test.YtlhnjaeocoafnaaQ03
import Derived.Test.YtlhnjaeocoafnaaQ23
import Derived.Test.YtlhnjaeocoafnaaQ24
import Derived.Test.YtlhnjaeocoafnaaQ25
import Derived.Test.YtlhnjaeocoafnaaQ26
import Derived.Deep.Cut
import Derived.Deep.CutRange
import Derived.Deep.RegionLaw
import Derived.Test.YtlhnjaeocoafnaaQ16
namespace Go.Proofs.Ytlhnjaeocoafnaa
open Go.RowKit
set_option maxRecDepth 100000

/-- A root's literal with one byte. -/
def bRt (v : Value) : Option Value :=
  match v with
  | .int .u8 n => some (.agg (putSeg (rc zr) 0 #[.int .u8 n]))
  | _ => none
@[go_sem] theorem bRt_int (n : Int) : bRt (.int .u8 n) = some (.agg (putSeg (rc zr) 0 #[.int .u8 n])) := rfl
@[go_sem ↓] theorem build_root1 (ρ : Operand → Value) (dst : Option Tmp) (x : Operand) (ty : TypeId) (pos : String) (after : Array Edge) (guard : Option (Nat × Bool)) (w : World) :
    (execOp ρ { dst, op := .build 30 #[(0, x)], type := ty, pos, after, guard }).run Try.prog w = vOutE (bRt (ρ x)) w (opRest Try.prog ρ { dst, op := .build 30 #[(0, x)], type := ty, pos, after, guard } w) := by
  cases h : bRt (ρ x) with
  | none => rfl
  | some v =>
    unfold bRt at h
    split at h
    · rename_i n hx
      have hv := Option.some.inj h
      subst hv
      have hf : Instr.fill (fun i => some (i * 1, 1)) (rc zr) [(0, .int .u8 n)] = some (putSeg (rc zr) 0 #[.int .u8 n]) := by
        rw [fill_cons _ (rc zr) 0 (.int .u8 n) [] (0 * 1) 1 rfl rfl (by rw [rc_size]; omega)]
        rfl
      unfold execOp
      simp only [Instr.build, Sem.run_bind, zero_root, Result.andThen_ok, run_underlying Try.underlying30, Try.sizeOf5, List.map_toArray, List.map_cons, List.map_nil, hx, Value.cells, hf]
      rfl
    · cases h
def r1 : Rt := zr.set 0 1
def r2 : Rt := zr.set 0 2
def r3 : Rt := zr.set 0 3
@[go_sem] theorem put_r1 : putSeg (rc zr) 0 #[.int .u8 1] = rc r1 := by kernel_rfl
@[go_sem] theorem put_r2 : putSeg (rc zr) 0 #[.int .u8 2] = rc r2 := by kernel_rfl
@[go_sem] theorem put_r3 : putSeg (rc zr) 0 #[.int .u8 3] = rc r3 := by kernel_rfl
theorem r_ne : r1 ≠ r2 ∧ r1 ≠ r3 ∧ r2 ≠ r3 := by decide +kernel
end Go.Proofs.Ytlhnjaeocoafnaa
namespace Go.Proofs.Ytlhnjaeocoafnaa
open Go.RowKit
set_option maxRecDepth 100000

theorem okA_agg1 {x : Value} {n : Nat} (hx : okA n x = true) : ∃ c, x = .agg c ∧ c.size = n := by
  unfold okA at hx
  split at hx
  · rename_i c
    rw [Bool.and_eq_true, beq_iff_eq] at hx
    exact ⟨c, rfl, hx.1⟩
  · cases hx
theorem put3 {z a b c : Array Value} (hz : z.size = 105) (ha : a.size = 35) (hb : b.size = 35) (hc : c.size = 35) : putSeg (putSeg (putSeg z 0 a) 35 b) 70 c = a ++ b ++ c := by
  have s1 : (putSeg z 0 a).size = 105 := by rw [putSeg_size (by omega), hz]
  have s2 : (putSeg (putSeg z 0 a) 35 b).size = 105 := by rw [putSeg_size (by omega), s1]
  apply Array.ext_getElem?
  intro j
  rw [putSeg_get (by omega), putSeg_get (by omega), putSeg_get (by omega), Array.getElem?_append, Array.getElem?_append, Array.size_append, ha, hb, hc]
  by_cases h0 : j < 35
  · rw [if_neg (by omega), if_neg (by omega), if_pos (by omega), if_pos (by omega), if_pos h0, Nat.sub_zero]
  · by_cases h1 : j < 70
    · rw [if_neg (by omega), if_pos (by omega), if_pos (by omega), if_neg h0]
    · by_cases h2 : j < 105
      · rw [if_pos (by omega), if_neg (by omega)]
      · rw [if_neg (by omega), if_neg (by omega), if_neg (by omega), if_neg (by omega), Array.getElem?_eq_none (by omega), Array.getElem?_eq_none (by omega)]
@[go_sem ↓] theorem buildSlice_ne3 (ρ : Operand → Value) (dst : Option Tmp) (x y z : Operand) (ty : TypeId) (pos : String) (after : Array Edge) (guard : Option (Nat × Bool)) (w : World) (hx : okA 35 (ρ x) = true) (hy : okA 35 (ρ y) = true) (hz : okA 35 (ρ z) = true) :
    (execOp ρ { dst, op := .buildSlice 22 3 #[(0, x), (1, y), (2, z)], type := ty, pos, after, guard }).run Try.prog w = .ok (.value (.slice (some ⟨w.heap.size, 0, none⟩) 3 3)) (w.alloc (.cells (cellsA (ρ x) ++ cellsA (ρ y) ++ cellsA (ρ z)) 73)) := by
  obtain ⟨a, ha, na⟩ := okA_agg1 hx
  obtain ⟨b, hb, nb⟩ := okA_agg1 hy
  obtain ⟨c, hc, nc⟩ := okA_agg1 hz
  have hp : (3 * 35 > 2 ^ 24) = False := by simp
  have h0 : (3 * 35 = 0) = False := by simp
  unfold execOp
  simp only [Instr.buildSlice, Sem.run_bind, run_underlying Try.underlying22, Result.andThen_ok, Try.sizeOf73, hp, h0, if_false, zero_ne, Value.cells]
  simp only [List.map_toArray, List.map_cons, List.map_nil, ha, hb, hc]
  simp only [Sem.run_pure, Result.andThen_ok]
  generalize hz : (Array.range (3 * 35)).map (fun x => (ne zne)[x % (ne zne).size]!) = z
  have hzs : z.size = 105 := by rw [← hz]; simp
  have hf : Instr.fill (fun i => some (i * 35, 35)) z [(0, .agg a), (1, .agg b), (2, .agg c)] = some (a ++ b ++ c) := by
    rw [fill_cons _ z 0 (.agg a) _ (0 * 35) 35 rfl (by simp [Value.cells, na]) (by omega)]
    have s1 : (putSeg z (0 * 35) a).size = 105 := by rw [putSeg_size (by omega), hzs]
    rw [fill_cons _ _ 1 (.agg b) _ (1 * 35) 35 rfl (by simp [Value.cells, nb]) (by simp only [Value.cells]; omega)]
    have s2 : (putSeg (putSeg z (0 * 35) a) (1 * 35) b).size = 105 := by rw [putSeg_size (by omega), s1]
    rw [fill_cons _ _ 2 (.agg c) _ (2 * 35) 35 rfl (by simp [Value.cells, nc]) (by simp only [Value.cells]; omega)]
    simp only [Value.cells]
    rw [← put3 hzs na nb nc]
    rfl
  simp only [hf]
  simp [cellsA]
  rfl
end Go.Proofs.Ytlhnjaeocoafnaa
namespace Go.Proofs.Ytlhnjaeocoafnaa
open Go.RowKit
set_option maxRecDepth 100000

/-- Checkpoints, wherever they lie. -/
def CksAt (l : List Ck) (w : World) (e : Ending) (w' : World) : Prop := ∃ v, e = .returned v ∧ SlE Ecc w' v l ∧ Below w.heap.size w w'
structure FinalC : Prop where
  more : ∀ (s : SlV) (u vb vj : Value) (l : List Nd) (ls : List Lk) (bal : List UInt64) (js : List Ck) (w : World), SlE Ene w (sv s) l → SlE Elk w u ls → SlE Enum w vb bal → SlE Ecc w vj js → l.length ≤ 1000 → bal.length ≤ 1152921504606846976 → js.length + ls.length ≤ 1000 → Calls Try.prog 12 #[.agg (tr ⟨s⟩), u, vb, vj] w (CksAt (moreL l ls bal js) w)
  finals : ∀ (s : SlV) (u vb vj : Value) (l : List Nd) (ls : List Lk) (bal : List UInt64) (js : List Ck) (w : World), SlE Ene w (sv s) l → SlE Elk w u ls → SlE Enum w vb bal → SlE Ecc w vj js → l.length ≤ 1000 → bal.length ≤ 1152921504606846976 → ls.length ≤ 1000 → js.length ≤ 1000 → Calls Try.prog 14 #[.agg (tr ⟨s⟩), u, vb, vj] w (CksAt (finalsL l ls bal js) w)
  next : ∀ (s : SlV) (u vb vj : Value) (l : List Nd) (ls : List Lk) (bal : List UInt64) (js : List Ck) (fin : Ck) (w : World), SlE Ene w (sv s) l → SlE Elk w u ls → SlE Enum w vb bal → SlE Ecc w vj js → l.length ≤ 1000 → bal.length ≤ 1152921504606846976 → ls.length ≤ 1000 → js.length ≤ 1000 → Calls Try.prog 17 #[.agg (tr ⟨s⟩), u, vb, vj, .agg (cc fin)] w fun e w' => e = .returned (.agg (cc (nextC l ls bal js fin))) ∧ Below w.heap.size w w'
  best : ∀ (s : SlV) (v : Value) (l : List Nd) (js : List Ck) (fin : Ck) (w : World), SlE Ene w (sv s) l → SlE Ecc w v js → l.length ≤ 1000 → js.length ≤ 1000 → Calls Try.prog 19 #[.agg (tr ⟨s⟩), v, .agg (cc fin)] w fun e w' => e = .returned (.agg (cc (bestJ l js fin))) ∧ Below w.heap.size w w'
  chain : ∀ (s : SlV) (v : Value) (l : List Nd) (cs : List Ck) (w : World), SlE Ene w (sv s) l → SlE Ecc w v cs → l.length ≤ 1000 → cs.length ≤ 1000 → Calls Try.prog 21 #[.agg (tr ⟨s⟩), v] w fun e w' => e = .returned (.bool (chainT l cs)) ∧ Below w.heap.size w w'
theorem enters_finalMore16 : ∀ args w, (callFunc 12 args).run Try.prog w = .ok (.enter 12 args) w := entersE Try.func12 (by kernel_rfl) (by kernel_rfl)
theorem enters_finalFinals16 : ∀ args w, (callFunc 14 args).run Try.prog w = .ok (.enter 14 args) w := entersE Try.func14 (by kernel_rfl) (by kernel_rfl)
theorem enters_finalNext16 : ∀ args w, (callFunc 17 args).run Try.prog w = .ok (.enter 17 args) w := entersE Try.func17 (by kernel_rfl) (by kernel_rfl)
theorem enters_finalBest16 : ∀ args w, (callFunc 19 args).run Try.prog w = .ok (.enter 19 args) w := entersE Try.func19 (by kernel_rfl) (by kernel_rfl)
theorem enters_finalChain16 : ∀ args w, (callFunc 21 args).run Try.prog w = .ok (.enter 21 args) w := entersE Try.func21 (by kernel_rfl) (by kernel_rfl)
theorem enters_two16 : ∀ args w, (callFunc 31 args).run Try.prog w = .ok (.enter 31 args) w := entersE Try.func31 (by kernel_rfl) (by kernel_rfl)
def ka : Ck := ⟨0, r1⟩
def kb : Ck := ⟨1, r2⟩
def kc : Ck := ⟨2, r3⟩
@[local go_sem] theorem put_e1 (x : Ck) : putSeg (cc x) 0 #[.int .u64 1] = cc { x with epoch := 1 } := cc_put_epoch x 1
@[local go_sem] theorem put_e2 (x : Ck) : putSeg (cc x) 0 #[.int .u64 2] = cc { x with epoch := 2 } := cc_put_epoch x 2
@[local go_sem] theorem mk_ka : ({ epoch := zcc.epoch, root := r1 } : Ck) = ka := rfl
@[local go_sem] theorem mk_kb : ({ epoch := 1, root := r2 } : Ck) = kb := rfl
@[local go_sem] theorem mk_kc : ({ epoch := 2, root := r3 } : Ck) = kc := rfl
@[local go_sem] theorem put_m7 (x : Lk) : putSeg (lk x) 66 #[.int .u64 7] = lk { x with mask := 7 } := lk_put_mask x 7
@[local go_sem] theorem put_m14 (x : Lk) : putSeg (lk x) 66 #[.int .u64 14] = lk { x with mask := 14 } := lk_put_mask x 14
def twoL : List Lk := [⟨kb, kc, 7⟩, ⟨ka, kb, 14⟩]
set_option maxRecDepth 100000 in
set_option maxHeartbeats 8000000 in
theorem two16 (w : World) : Calls Try.prog 31 #[] w fun e w' => (∃ v, e = .returned v ∧ SlE Elk w' v twoL) ∧ Below w.heap.size w w' := by
  go_enter Try.func31, Try.ntmps31
  obtain ⟨W0, hW0⟩ : ∃ W0, W0 = ((w.alloc (.cells (cc ka) 32)).alloc (.cells (cc kb) 32)).alloc (.cells (cc kc) 32) := ⟨_, rfl⟩
  obtain ⟨hB, k0, k1, k2, hz0⟩ := heap3 w _ _ _ _ _ _ W0 hW0
  have HB := Lib.hid hB
  have HW := Lib.hid hW0
  have y0 := (ck_v k0).a
  have y1 := (ck_v k1).a
  have y2 := (ck_v k2).a
  clear hW0 hB k0 k1 k2 hz0
  go_upto_region 4 with fail
  rw [← HW.out]
  go_wp2_with fail
  go_ret
  exact ⟨⟨_, rfl, lk_lit2 _ _ _ _ rfl⟩, belowT HB.out below1⟩
set_option maxRecDepth 100000 in
set_option maxHeartbeats 8000000 in
theorem few16 (s : SlV) (q p : Option Addr) (m cq n cp : Nat) (l : List Nd) (ls : List Lk) (js : List Ck) (w : World) (h : SlE Ene w (sv s) l) (hm : ls.length = m) (hn : js.length = n) :
    Calls Try.prog 10 #[.agg (tr ⟨s⟩), .slice q m cq, .slice p n cp] w fun e w' => e = .returned (.bool (decide (l.length ≤ 20) && (decide (ls.length ≤ 20) && decide (js.length ≤ 20)))) ∧ Below w.heap.size w w' := by
  have hl := sv_lenN h
  obtain ⟨ps, k, cs⟩ := s
  have hk : l.length = k := hl
  obtain ⟨A, hA⟩ : ∃ A, A = decide (l.length ≤ 20) := ⟨_, rfl⟩
  obtain ⟨B, hB'⟩ : ∃ B, B = decide (ls.length ≤ 20) := ⟨_, rfl⟩
  obtain ⟨C, hC⟩ : ∃ C, C = decide (js.length ≤ 20) := ⟨_, rfl⟩
  rw [← hA, ← hB', ← hC]
  rw [hk] at hA
  rw [hm] at hB'
  rw [hn] at hC
  have a1 : decide ((k : Int) ≤ 20) = A := by rw [hA]; exact decide_eq_decide.2 (by omega)
  have a1' : decide (k ≤ 20) = A := hA.symm
  have a2 : decide ((m : Int) ≤ 20) = B := by rw [hB']; exact decide_eq_decide.2 (by omega)
  have a2' : decide (m ≤ 20) = B := hB'.symm
  have a3 : decide ((n : Int) ≤ 20) = C := by rw [hC]; exact decide_eq_decide.2 (by omega)
  have a3' : decide (n ≤ 20) = C := hC.symm
  obtain ⟨W0, hW0⟩ : ∃ W0, W0 = w.alloc (.cells (tr ⟨⟨ps, k, cs⟩⟩) 24) := ⟨_, rfl⟩
  have HB : Hid (Below w.heap.size w W0) := by show Below _ _ _; rw [hW0]; exact below1
  have hz : W0.heap[w.heap.size]? = some (.cells (tr ⟨⟨ps, k, cs⟩⟩) 24 (0, 0)) := by rw [hW0]; exact heap_alloc_last w _
  have HW := Lib.hid hW0
  have z0 := (tr_cells hz).1
  rw [sv_mk] at z0
  clear hW0 hz h hl hk hA hB' hC hm hn
  go_enter Try.func10, Try.ntmps10
  go_upto_region 1 with fail
  rw [← HW.out]
  cases A <;> cases B <;> cases C <;> (
    go_wp2_with fail
    go_ret
    exact ⟨rfl, HB.out⟩)
end Go.Proofs.Ytlhnjaeocoafnaa
namespace Go.Proofs.Ytlhnjaeocoafnaa
open Go.RowKit
set_option maxRecDepth 100000

/-- A tree is answered. -/
def TreeIs (L : List Nd) (w : World) (e : Ending) (w' : World) : Prop := ∃ s : SlV, e = .returned (.agg (tr ⟨s⟩)) ∧ SlE Ene w' (sv s) L ∧ Below w.heap.size w w'
/-- A tree, and whether. -/
def TreeOk (L : List Nd) (ok : Bool) (w : World) (e : Ending) (w' : World) : Prop := ∃ s : SlV, e = .returned (.tuple #[.agg (tr ⟨s⟩), .bool ok]) ∧ SlE Ene w' (sv s) L ∧ Below w.heap.size w w'
/-- A tree, and an error's number. -/
def TreeEr (L : List Nd) (n : Nat) (w : World) (e : Ending) (w' : World) : Prop := ∃ s : SlV, e = .returned (.tuple #[.agg (tr ⟨s⟩), .int .i64 (n : Int)]) ∧ SlE Ene w' (sv s) L ∧ Below w.heap.size w w'
/-- The tree of one block. -/
def newN (r : Rt) (q : UInt64) : Nd := ⟨r, -1, q, 0⟩
def newOk (q : UInt64) : Bool := decide (q.toNat ≤ 1099511627776)
def newL (r : Rt) (q : UInt64) : List Nd := if newOk q = true then [newN r q] else []
end Go.Proofs.Ytlhnjaeocoafnaa
namespace Go.Proofs.Ytlhnjaeocoafnaa
open Go.RowKit
set_option maxRecDepth 100000

def threeL : List Nd := [⟨r1, -1, 0, 0⟩, ⟨r2, 0, 3, 0⟩, ⟨r3, 1, 5, 0⟩]
theorem three_may : decide (MayT threeL) = true := by decide +kernel
theorem three_above : aboveZ threeL 0 2 = true := by decide +kernel
theorem three_at : atZ threeL 2 4 = 1 := by decide +kernel
theorem three_find : findT threeL r3 = 2 := by decide +kernel
@[local go_sem] theorem put_slot3 (x : Nd) : putSeg (ne x) 33 #[.int .u64 3] = ne { x with slot := 3 } := ne_put_slot x 3
@[local go_sem] theorem put_slot5 (x : Nd) : putSeg (ne x) 33 #[.int .u64 5] = ne { x with slot := 5 } := ne_put_slot x 5

set_option maxRecDepth 100000 in
set_option maxHeartbeats 4000000 in
theorem three (w : World) : Calls Try.prog 30 #[] w (TreeIs threeL w) := by
  go_enter Try.func30, Try.ntmps30
  go_wp2_with fail
  simp only [zne]
  obtain ⟨W, hW⟩ : ∃ W, W = (w.alloc (.cells (tr ⟨⟨some ⟨w.heap.size + 1, 0, none⟩, 3, 3⟩⟩) 24)).alloc (.cells (ne ⟨r1, -1, 0, 0⟩ ++ (ne ⟨r2, 0, 3, 0⟩ ++ ne ⟨r3, 1, 5, 0⟩)) 73) := ⟨_, rfl⟩
  obtain ⟨hB, h0, h1, hz⟩ := heap2 w _ _ _ _ W hW
  have hs : SlE Ene W (.slice (some ⟨w.heap.size + 1, 0, none⟩) 3 3) threeL := by
    rw [hW]
    refine slE_lit _ threeL 3 _ _ (w.heap.size + 1) rfl (by simp) ?_
    rw [Array.toList_append, Array.toList_append, ne_list, ne_list, ne_list]
    simp [cellsE, Ene, threeL]
  exact bodyPost_ret (results_agg1 Try.isAgg24 Try.sizeOf24 _ 0 rfl _ _ _ _ rfl (by rw [← hW]; exact ldA_block h0 (tr_size _))) rfl ⟨⟨some ⟨w.heap.size + 1, 0, none⟩, 3, 3⟩, rfl, by rw [← hW]; exact hs, by rw [← hW]; exact hB⟩
end Go.Proofs.Ytlhnjaeocoafnaa
