/-
  Package weight: backward, over pass, walked.
  weight.sums: its plain data, its cells, loads, stores, literals, ==, its parts in memory, an argument; in any translation that has it. (written by wip/mkstruct.py)
-/
import Derived.Test.YtccihllcohnnnaaQ43
import Derived.Test.YtccihllcohnnnaaQ10
import Derived.Test.YtccihllcohnnnaaQ17
import Derived.Test.YtccihllcohnnnaaQ14
import Derived.Test.YtccihllcohnnnaaQ15
namespace Go.Proofs.Ytccihllcohnnnaa
open Go.RowKit
set_option maxRecDepth 100000

set_option maxRecDepth 100000 in
set_option maxHeartbeats 4000000 in
theorem backPass (x : Value) (p : Option Addr) (n cp : Nat) (w : World) (R : Nat → World → Prop) (B : World → Prop) (hn : n ≤ 1000)
    (H : ∀ m W, m < n → R (m + 1) W → Calls Try.prog 34 #[x, .int .i64 (m : Int)] W fun e w' => ∃ ok, e = .returned (.bool ok) ∧ (ok = true → R m w') ∧ (ok = false → B w'))
    (h : R n w) :
    Calls Try.prog 33 #[.slice p n cp, .func (.func 34) #[x] #[]] w fun e w' => ∃ v ok, e = .returned (.tuple #[v, .bool ok]) ∧ (ok = true → v = .slice p n cp ∧ R 0 w') ∧ (ok = false → v = .slice none 0 0 ∧ B w') := by
  have HH := Lib.hid H
  have HR := Lib.hid h
  have HN := Lib.hid hn
  clear H h hn
  go_enter Try.func33, Try.ntmps33
  go_wp2_with fail
  go_loopw [6, 9] (fun _ k wr => ∃ j : Nat, j ≤ n ∧ k = .int .i64 (j : Int) ∧ R (n - j) wr) (fun _ k _ => n - (intOf k).toNat)
  case atStart => exact ⟨0, Nat.zero_le _, rfl, HR.out⟩
  case round =>
    obtain ⟨j, hj, rfl, hr⟩ := hrel
    have KR := Lib.hid hr
    clear hr
    by_cases hlt : j < n
    · have i0 : (0 : Int) ≤ (j : Int) := by omega
      have i1 : (j : Int) < (n : Int) := by omega
      have u1 : (j : Int) + 1 < 10000 := by have := HN.out; omega
      have u2 : (n : Int) < 10000 := by have := HN.out; omega
      obtain ⟨m, hm⟩ : ∃ m, m = n - 1 - j := ⟨_, rfl⟩
      have hmi : (n : Int) - 1 - (j : Int) = (m : Int) := by omega
      have HC := Lib.hid (HH.out m wr (by omega) (by rw [show m + 1 = n - j by omega]; exact KR.out))
      have HM : Hid (n - (j + 1) = m) := by show n - (j + 1) = m; omega
      have HL := Lib.hid hlt
      clear hm hlt
      go_wp2_with fail
      refine HC.out.mono ?_
      rintro e w1 ⟨ok, rfl, hy, hz⟩
      have HY := Lib.hid hy
      have HZ := Lib.hid hz
      clear hy hz
      cases ok
      · go_wp2_with fail
        go_ret2
        exact ⟨_, _, rfl, (fun e => by cases e), (fun _ => ⟨rfl, HZ.out (by simp)⟩)⟩
      · go_wp2_with fail
        go_roundw
        case rel => exact ⟨j + 1, HL.out, by go_num, by rw [HM.out]; exact HY.out (by simp)⟩
        case measure => simp [intOf]; have := HL.out; omega
    · obtain rfl : j = n := by omega
      clear hlt
      go_wp2_with fail
      go_ret2
      exact ⟨_, _, rfl, (fun _ => ⟨rfl, by have := KR.out; rwa [Nat.sub_self] at this⟩), (fun e => by cases e)⟩
end Go.Proofs.Ytccihllcohnnnaa
namespace Go.Proofs.Ytccihllcohnnnaa
open Go.RowKit
set_option maxRecDepth 100000

structure Sm where
  t : Tr
  l : SlV
theorem Sm.ext {x y : Sm} (h0 : x.t = y.t) (h1 : x.l = y.l) : x = y := by cases x; cases y; simp_all
def smL (x : Sm) : List Value := (tr x.t).toList ++ ([sv x.l])
def sm (x : Sm) : Array Value := (smL x).toArray
theorem sm_list (x : Sm) : (sm x).toList = smL x := rfl
theorem sm_len (x : Sm) : (smL x).length = 2 := by simp [smL, tr_size]
theorem sm_size (x : Sm) : (sm x).size = 2 := by rw [← Array.length_toList, sm_list, sm_len]
theorem sm_one (x : Sm) : ∀ v ∈ smL x, v.oneCell' = true := by
  intro v hv
  unfold smL at hv
  simp only [List.mem_append, List.mem_singleton] at hv
  rcases hv with hv | rfl
  · exact tr_one _ v (by rw [tr_list] at hv; exact hv)
  · rfl
@[go_sem] theorem okA_sm (x : Sm) : okA 2 (.agg (sm x)) = true := by
  show ((sm x).size == 2 && (sm x).all (·.oneCell')) = true
  rw [show (sm x).all (·.oneCell') = true from all_one (sm_one x), sm_size]; rfl
def zsm : Sm := ⟨ztr, ⟨none, 0, 0⟩⟩
theorem zero_sm (w : World) : (zeroValue 80).run Try.prog w = .ok (.agg (sm zsm)) w := by kernel_rfl
@[go_sem ↓] theorem load_sm (ρ : Operand → Value) (dst : Option Tmp) (x : Operand) (ty : TypeId) (pos : String) (after : Array Edge) (guard : Option (Nat × Bool)) (w : World) :
    (execOp ρ { dst, op := .load 80 x, type := ty, pos, after, guard }).run Try.prog w = ldOut (ldA w (ρ x) 2) w (opRest Try.prog ρ { dst, op := .load 80 x, type := ty, pos, after, guard } w) :=
  run_load_out Try.isAgg80 Try.sizeOf80 ρ dst x ty pos after guard w
@[go_sem ↓] theorem store_sm (ρ : Operand → Value) (dst : Option Tmp) (x y : Operand) (ty : TypeId) (pos : String) (after : Array Edge) (guard : Option (Nat × Bool)) (w : World) :
    (execOp ρ { dst, op := .store 80 x y, type := ty, pos, after, guard }).run Try.prog w = stOut (wrA w (ρ x) 2 && okA 2 (ρ y)) (stA w (ρ x) (ρ y)) (opRest Try.prog ρ { dst, op := .store 80 x y, type := ty, pos, after, guard } w) :=
  run_store_out Try.sizeOf80 ρ dst x y ty pos after guard w
@[go_sem ↓] theorem alloc_sm (ρ : Operand → Value) (dst : Option Tmp) (ty : TypeId) (pos : String) (after : Array Edge) (guard : Option (Nat × Bool)) (w : World) :
    (execOp ρ { dst, op := .alloc 80, type := ty, pos, after, guard }).run Try.prog w = .ok (.value (.pointer (some ⟨w.heap.size, 0, none⟩))) (w.alloc (.cells (sm zsm) 80)) := by
  unfold execOp
  simp only [Instr.alloc, Sem.run_bind, zero_sm, Result.andThen_ok]
  rfl
def places_sm : List (Nat × Nat) := [(0, 1), (1, 1)]
theorem fields_sm : ∀ w : World, ((Try.prog.fieldsOf 80).mapM (m := Sem) fun f => do pure (f.offset, ← Go.sizeOf f.type)).run Try.prog w = .ok places_sm.toArray w := fun _ => by kernel_rfl
theorem under_sm : Try.prog.underlying 80 = some (.struct (Try.prog.fieldsOf 80)) := by kernel_rfl
theorem flds_sm : (Try.prog.fieldsOf 80).toList.map (fun f => (f.name, f.type, f.offset)) = [("t", 24, 0), ("l", 29, 1)] := by kernel_rfl
@[go_sem ↓] theorem build_sm (ρ : Operand → Value) (dst : Option Tmp) (p : Nat × Operand) (ps : List (Nat × Operand)) (ty : TypeId) (pos : String) (after : Array Edge) (guard : Option (Nat × Bool)) (w : World) :
    (execOp ρ { dst, op := .build 80 (p :: ps).toArray, type := ty, pos, after, guard }).run Try.prog w = vOutE ((fillA places_sm (sm zsm) ((p.1, ρ p.2) :: ps.map fun p => (p.1, ρ p.2))).map .agg) w (opRest Try.prog ρ { dst, op := .build 80 (p :: ps).toArray, type := ty, pos, after, guard } w) :=
  build_out zero_sm under_sm fields_sm ρ dst (p :: ps).toArray ty pos after guard w
@[go_sem ↓] theorem build0_sm (ρ : Operand → Value) (dst : Option Tmp) (ty : TypeId) (pos : String) (after : Array Edge) (guard : Option (Nat × Bool)) (w : World) :
    (execOp ρ { dst, op := .build 80 #[], type := ty, pos, after, guard }).run Try.prog w = .ok (.value (.agg (sm zsm))) w :=
  build_out zero_sm under_sm fields_sm ρ dst #[] ty pos after guard w
attribute [go_sem] places_sm sm_size
theorem sm_at_t (x : Sm) : smL x = ([]) ++ ((tr x.t).toList ++ ([sv x.l])) ∧ ([] : List Value).length = 0 := by
  constructor
  · unfold smL; simp
  · rfl
theorem sm_get_t (x : Sm) : (sm x).extract 0 (0 + 1) = tr x.t := extract_mid (sm_at_t x).1 (sm_at_t x).2 (tr_size _)
theorem sm_rd_t {w : World} {b off : Nat} {x : Sm} (h : w.rangeAt b off (smL x)) : ldA w (.pointer (some ⟨b, off + 0, none⟩)) 1 = some (tr x.t) := range_ldA h (sm_at_t x).1 (sm_at_t x).2 (tr_size _)
theorem sm_rd0_t {w : World} {g : Nat} {t : TypeId} {fr : Nat × Nat} {x : Sm} (h : w.heap[g]? = some (.cells (sm x) t fr)) : ldA w (.pointer (some ⟨g, 0, none⟩)) 1 = some (tr x.t) := by have := sm_rd_t (x := x) (range_block h); rwa [Nat.zero_add] at this
@[go_sem] theorem sm_lda_t (w : World) (t : TypeId) (b : Nat) (x : Sm) (hb : b = w.heap.size) : ldA (w.alloc (.cells (sm x) t)) (.pointer (some ⟨b, 0, none⟩)) 1 = some (tr x.t) := by subst hb; exact sm_rd0_t (heap_alloc_last w _)
theorem sm_put_t (x : Sm) (y : Tr) : putSeg (sm x) 0 (tr y) = sm { x with t := y } := by
  rw [putSeg_mid (c := sm x) (sm_at_t x).1 (sm_at_t x).2 (by simp [tr_size])]
  simp [sm, smL]
theorem sm_at_l (x : Sm) : smL x = ((tr x.t).toList) ++ ([sv x.l] ++ ([])) ∧ ((tr x.t).toList : List Value).length = 1 := by
  constructor
  · unfold smL; simp
  · simp [tr_size]
theorem sm_get_l (x : Sm) : (sm x)[1]? = some (sv x.l) := get_at (sm_at_l x).1 (sm_at_l x).2
@[go_sem] theorem sm_gi_l (x : Sm) (h : 1 < (sm x).size) : (sm x)[1]'h = sv x.l := by have := sm_get_l x; rw [Array.getElem?_eq_getElem h] at this; exact Option.some.inj this
theorem sm_rd_l {w : World} {b off : Nat} {x : Sm} (h : w.rangeAt b off (smL x)) : w.cell? ⟨b, off + 1, none⟩ = some (sv x.l) := range_one h (sm_at_l x).1 (sm_at_l x).2
theorem sm_rd0_l {w : World} {g : Nat} {t : TypeId} {fr : Nat × Nat} {x : Sm} (h : w.heap[g]? = some (.cells (sm x) t fr)) : w.cell? ⟨g, 1, none⟩ = some (sv x.l) := by have := sm_rd_l (x := x) (range_block h); rwa [Nat.zero_add] at this
theorem sm_put_l (x : Sm) (y : SlV) : putSeg (sm x) 1 #[sv y] = sm { x with l := y } := by
  rw [putSeg_mid (c := sm x) (r := #[sv y]) (sm_at_l x).1 (sm_at_l x).2 rfl]
  simp [sm, smL]
theorem sm_rg_t {w : World} {b off : Nat} {x : Sm} (h : w.rangeAt b off (smL x)) : w.rangeAt b (off + 0) (trL x.t) := by
  rw [← tr_list]; exact range_part h (sm_at_t x).1 (sm_at_t x).2
theorem sm_in_t (x : Sm) (o : Nat) (r : Array Value) (h : o + r.size ≤ 1) : putSeg (sm x) (0 + o) r = putSeg (sm x) 0 (putSeg (tr x.t) o r) := putSeg_in (c := sm x) (sm_at_t x).1 (sm_at_t x).2 (by rw [tr_size]; exact h)
theorem sm_rd_t_n {w : World} {b off : Nat} {x : Sm} (h : w.rangeAt b off (smL x)) : w.cell? ⟨b, off + 0, none⟩ = some (sv x.t.n) := tr_rd_n (sm_rg_t h)
theorem sm_rd0_t_n {w : World} {g : Nat} {t : TypeId} {fr : Nat × Nat} {x : Sm} (h : w.heap[g]? = some (.cells (sm x) t fr)) : w.cell? ⟨g, 0, none⟩ = some (sv x.t.n) := by have := sm_rd_t_n (x := x) (range_block h); rwa [Nat.zero_add] at this
theorem sm_get_t_n (x : Sm) : (sm x)[0]? = some (sv x.t.n) := by have := sm_rd_t_n (x := x) (range_block (heap_alloc_last (default : World) (.cells (sm x) 0))); rw [cell_of_row _ _ _ _ _ _ (heap_alloc_last _ _), Nat.zero_add] at this; exact this
@[go_sem] theorem sm_gi_t_n (x : Sm) (h : 0 < (sm x).size) : (sm x)[0]'h = sv x.t.n := by have := sm_get_t_n x; rw [Array.getElem?_eq_getElem h] at this; exact Option.some.inj this
theorem sm_put_t_n (x : Sm) (y : SlV) : putSeg (sm x) 0 #[sv y] = sm { x with t := { x.t with n := y } } := by
  rw [show 0 = 0 + 0 from rfl, sm_in_t x 0 _ (by simp), tr_put_n, sm_put_t]
attribute [go_sem] sm_put_t_n
@[go_sem] theorem sm_set_t_n (x : Sm) (y : SlV) : (sm x).setIfInBounds 0 (sv y) = sm { x with t := { x.t with n := y } } := by
  rw [setIfInBounds_seg (by rw [sm_size]; decide)]; exact sm_put_t_n x y
@[go_sem] theorem sm_sets_t_n (x : Sm) (p : Option Addr) (k c : Nat) : (sm x).setIfInBounds 0 (.slice p k c) = sm { x with t := { x.t with n := ⟨p, k, c⟩ } } := by
  rw [setIfInBounds_seg (by rw [sm_size]; decide)]; exact sm_put_t_n x ⟨p, k, c⟩
@[go_sem] theorem sm_set_l (x : Sm) (y : SlV) : (sm x).setIfInBounds 1 (sv y) = sm { x with l := y } := by
  rw [setIfInBounds_seg (by rw [sm_size]; decide)]; exact sm_put_l x y
@[go_sem] theorem sm_sets_l (x : Sm) (p : Option Addr) (k c : Nat) : (sm x).setIfInBounds 1 (.slice p k c) = sm { x with l := ⟨p, k, c⟩ } := by
  rw [setIfInBounds_seg (by rw [sm_size]; decide)]; exact sm_put_l x ⟨p, k, c⟩
attribute [go_sem] sm_put_t sm_put_l
@[go_sem] theorem sm_puts_l (x : Sm) (p : Option Addr) (k c : Nat) : putSeg (sm x) 1 #[.slice p k c] = sm { x with l := ⟨p, k, c⟩ } := sm_put_l x ⟨p, k, c⟩
theorem cellsOf_sm : Try.prog.cellsOf 80 = 2 := by kernel_rfl
end Go.Proofs.Ytccihllcohnnnaa
