/-
  api.Check: its plain data, its cells, loads, stores, literals, ==, its parts in memory, an argument; in any translation that has it. (written by wip/mkstruct.py)
  Masks of 64 bits, plainly; no word of the program.
  Links, plainly: clashes, who is guilty; no word of the program.
-/
import Derived.Test.YtlhnjaeocoafnaaQ07
import Derived.Below
namespace Go.Proofs.Ytlhnjaeocoafnaa
open Go.RowKit
set_option maxRecDepth 100000

structure Ck where
  epoch : UInt64
  root : Rt
theorem Ck.ext {x y : Ck} (h0 : x.epoch = y.epoch) (h1 : x.root = y.root) : x = y := by cases x; cases y; simp_all
instance : DecidableEq Ck := fun x y => decidable_of_iff (x.epoch = y.epoch ∧ x.root = y.root) ⟨fun h => Ck.ext h.1 h.2, fun h => by subst h; exact ⟨rfl, rfl⟩⟩
def ccL (x : Ck) : List Value := [num x.epoch] ++ ((rc x.root).toList)
def cc (x : Ck) : Array Value := (ccL x).toArray
theorem cc_list (x : Ck) : (cc x).toList = ccL x := rfl
theorem cc_len (x : Ck) : (ccL x).length = 33 := by simp [ccL, rc_size]
theorem cc_size (x : Ck) : (cc x).size = 33 := by rw [← Array.length_toList, cc_list, cc_len]
theorem cc_one (x : Ck) : ∀ v ∈ ccL x, v.oneCell' = true := by
  intro v hv
  unfold ccL at hv
  simp only [List.mem_append, List.mem_singleton] at hv
  rcases hv with rfl | hv
  · rfl
  · exact rc_ones _ v hv
@[go_sem] theorem okA_cc (x : Ck) : okA 33 (.agg (cc x)) = true := by
  show ((cc x).size == 33 && (cc x).all (·.oneCell')) = true
  rw [show (cc x).all (·.oneCell') = true from all_one (cc_one x), cc_size]; rfl
def zcc : Ck := ⟨0, zr⟩
theorem zero_cc (w : World) : (zeroValue 32).run Try.prog w = .ok (.agg (cc zcc)) w := by kernel_rfl
@[go_sem ↓] theorem load_cc (ρ : Operand → Value) (dst : Option Tmp) (x : Operand) (ty : TypeId) (pos : String) (after : Array Edge) (guard : Option (Nat × Bool)) (w : World) :
    (execOp ρ { dst, op := .load 32 x, type := ty, pos, after, guard }).run Try.prog w = ldOut (ldA w (ρ x) 33) w (opRest Try.prog ρ { dst, op := .load 32 x, type := ty, pos, after, guard } w) :=
  run_load_out Try.isAgg32 Try.sizeOf32 ρ dst x ty pos after guard w
@[go_sem ↓] theorem store_cc (ρ : Operand → Value) (dst : Option Tmp) (x y : Operand) (ty : TypeId) (pos : String) (after : Array Edge) (guard : Option (Nat × Bool)) (w : World) :
    (execOp ρ { dst, op := .store 32 x y, type := ty, pos, after, guard }).run Try.prog w = stOut (wrA w (ρ x) 33 && okA 33 (ρ y)) (stA w (ρ x) (ρ y)) (opRest Try.prog ρ { dst, op := .store 32 x y, type := ty, pos, after, guard } w) :=
  run_store_out Try.sizeOf32 ρ dst x y ty pos after guard w
@[go_sem ↓] theorem alloc_cc (ρ : Operand → Value) (dst : Option Tmp) (ty : TypeId) (pos : String) (after : Array Edge) (guard : Option (Nat × Bool)) (w : World) :
    (execOp ρ { dst, op := .alloc 32, type := ty, pos, after, guard }).run Try.prog w = .ok (.value (.pointer (some ⟨w.heap.size, 0, none⟩))) (w.alloc (.cells (cc zcc) 32)) := by
  unfold execOp
  simp only [Instr.alloc, Sem.run_bind, zero_cc, Result.andThen_ok]
  rfl
def places_cc : List (Nat × Nat) := [(0, 1), (1, 32)]
theorem fields_cc : ∀ w : World, ((Try.prog.fieldsOf 32).mapM (m := Sem) fun f => do pure (f.offset, ← Go.sizeOf f.type)).run Try.prog w = .ok places_cc.toArray w := fun _ => by kernel_rfl
theorem under_cc : Try.prog.underlying 32 = some (.struct (Try.prog.fieldsOf 32)) := by kernel_rfl
theorem flds_cc : (Try.prog.fieldsOf 32).toList.map (fun f => (f.name, f.type, f.offset)) = [("Epoch", 28, 0), ("Root", 30, 1)] := by kernel_rfl
@[go_sem ↓] theorem build_cc (ρ : Operand → Value) (dst : Option Tmp) (p : Nat × Operand) (ps : List (Nat × Operand)) (ty : TypeId) (pos : String) (after : Array Edge) (guard : Option (Nat × Bool)) (w : World) :
    (execOp ρ { dst, op := .build 32 (p :: ps).toArray, type := ty, pos, after, guard }).run Try.prog w = vOutE ((fillA places_cc (cc zcc) ((p.1, ρ p.2) :: ps.map fun p => (p.1, ρ p.2))).map .agg) w (opRest Try.prog ρ { dst, op := .build 32 (p :: ps).toArray, type := ty, pos, after, guard } w) :=
  build_out zero_cc under_cc fields_cc ρ dst (p :: ps).toArray ty pos after guard w
@[go_sem ↓] theorem build0_cc (ρ : Operand → Value) (dst : Option Tmp) (ty : TypeId) (pos : String) (after : Array Edge) (guard : Option (Nat × Bool)) (w : World) :
    (execOp ρ { dst, op := .build 32 #[], type := ty, pos, after, guard }).run Try.prog w = .ok (.value (.agg (cc zcc))) w :=
  build_out zero_cc under_cc fields_cc ρ dst #[] ty pos after guard w
attribute [go_sem] places_cc cc_size
theorem cc_at_epoch (x : Ck) : ccL x = ([]) ++ ([num x.epoch] ++ ((rc x.root).toList)) ∧ ([] : List Value).length = 0 := by
  constructor
  · unfold ccL; simp
  · rfl
theorem cc_get_epoch (x : Ck) : (cc x)[0]? = some (num x.epoch) := get_at (cc_at_epoch x).1 (cc_at_epoch x).2
@[go_sem] theorem cc_gi_epoch (x : Ck) (h : 0 < (cc x).size) : (cc x)[0]'h = num x.epoch := by have := cc_get_epoch x; rw [Array.getElem?_eq_getElem h] at this; exact Option.some.inj this
theorem cc_rd_epoch {w : World} {b off : Nat} {x : Ck} (h : w.rangeAt b off (ccL x)) : w.cell? ⟨b, off + 0, none⟩ = some (num x.epoch) := range_one h (cc_at_epoch x).1 (cc_at_epoch x).2
theorem cc_rd0_epoch {w : World} {g : Nat} {t : TypeId} {fr : Nat × Nat} {x : Ck} (h : w.heap[g]? = some (.cells (cc x) t fr)) : w.cell? ⟨g, 0, none⟩ = some (num x.epoch) := by have := cc_rd_epoch (x := x) (range_block h); rwa [Nat.zero_add] at this
theorem cc_put_epoch (x : Ck) (y : UInt64) : putSeg (cc x) 0 #[num y] = cc { x with epoch := y } := by
  rw [putSeg_mid (c := cc x) (r := #[num y]) (cc_at_epoch x).1 (cc_at_epoch x).2 rfl]
  simp [cc, ccL]
theorem cc_at_root (x : Ck) : ccL x = ([num x.epoch]) ++ ((rc x.root).toList ++ ([])) ∧ ([num x.epoch] : List Value).length = 1 := by
  constructor
  · unfold ccL; simp
  · simp
theorem cc_get_root (x : Ck) : (cc x).extract 1 (1 + 32) = rc x.root := extract_mid (cc_at_root x).1 (cc_at_root x).2 (rc_size _)
theorem cc_rd_root {w : World} {b off : Nat} {x : Ck} (h : w.rangeAt b off (ccL x)) : ldA w (.pointer (some ⟨b, off + 1, none⟩)) 32 = some (rc x.root) := range_ldA h (cc_at_root x).1 (cc_at_root x).2 (rc_size _)
theorem cc_rd0_root {w : World} {g : Nat} {t : TypeId} {fr : Nat × Nat} {x : Ck} (h : w.heap[g]? = some (.cells (cc x) t fr)) : ldA w (.pointer (some ⟨g, 1, none⟩)) 32 = some (rc x.root) := by have := cc_rd_root (x := x) (range_block h); rwa [Nat.zero_add] at this
@[go_sem] theorem cc_lda_root (w : World) (t : TypeId) (b : Nat) (x : Ck) (hb : b = w.heap.size) : ldA (w.alloc (.cells (cc x) t)) (.pointer (some ⟨b, 1, none⟩)) 32 = some (rc x.root) := by subst hb; exact cc_rd0_root (heap_alloc_last w _)
theorem cc_put_root (x : Ck) (y : Rt) : putSeg (cc x) 1 (rc y) = cc { x with root := y } := by
  rw [putSeg_mid (c := cc x) (cc_at_root x).1 (cc_at_root x).2 (by simp [rc_size])]
  simp [cc, ccL]
@[go_sem] theorem cc_set_epoch (x : Ck) (y : UInt64) : (cc x).setIfInBounds 0 (num y) = cc { x with epoch := y } := by
  rw [setIfInBounds_seg (by rw [cc_size]; decide)]; exact cc_put_epoch x y
@[go_sem] theorem cc_setn_epoch (x : Ck) (y : UInt64) : (cc x).setIfInBounds 0 (.int .u64 (y.toNat : Int)) = cc { x with epoch := y } := by
  rw [setIfInBounds_seg (by rw [cc_size]; decide)]; exact cc_put_epoch x y
attribute [go_sem] cc_put_epoch cc_put_root
@[go_sem] theorem cc_putn_epoch (x : Ck) (y : UInt64) : putSeg (cc x) 0 #[.int .u64 (y.toNat : Int)] = cc { x with epoch := y } := cc_put_epoch x y
theorem part_cc (c : Array Value) (o : Nat) (r : Ck) (h : c.extract o (o + 33) = cc r) (w : World) : (part 32 c o).run Try.prog w = .ok (.agg (cc r)) w := by
  rw [part_agg (P := Try.prog) Try.isAgg32 Try.sizeOf32, h]
theorem eq_ccN (d : Nat) (x y : Ck) (w : World) : (Op.equalIn (d + 3) 32 (.agg (cc x)) (.agg (cc y))).run Try.prog w = .ok (decide (x = y)) w := by
  rw [show d + 3 = (d + 2) + 1 from rfl, run_equalIn_struct w (d + 2) _ _ _ under_cc (by kernel_rfl)]
  rw [eqF_cons flds_cc (by decide) (partN _ _ _ (cc_get_epoch x) w) (partN _ _ _ (cc_get_epoch y) w) (eqNum (d + 1) _ _ w)
    (fun _ h1 => eqF_cons h1 (by decide) (partR _ _ _ (cc_get_root x) w) (partR _ _ _ (cc_get_root y) w) (eqRtN (d + 0) _ _ w)
    (fun _ hn => eqF_nil hn))]
  congr 1
  rw [Bool.eq_iff_iff]
  simp only [Bool.and_eq_true, decide_eq_true_iff, and_true]
  exact ⟨fun h => Ck.ext h.1 h.2, fun h => by subst h; exact ⟨rfl, rfl⟩⟩
@[go_sem ↓] theorem eq_cc (x y : Ck) (w : World) : (Op.equalIn 10000 32 (.agg (cc x)) (.agg (cc y))).run Try.prog w = .ok (decide (x = y)) w := eq_ccN 9997 x y w
theorem cellsOf_cc : Try.prog.cellsOf 32 = 33 := by kernel_rfl
section
open Go.WideShapes Go.ChangeShapes
variable {H : Type} {enc : TypeId × Value → H} {w : World} {base : Nat} {sp : Nat → Bool} {held : Bool}
set_option maxRecDepth 100000 in
theorem cells_cc {fuel : Nat} {cs : List Value} {x : DataW H × List MemPlace} (hl : cs.length = 33) (h : DataW.trod enc Try.prog w base sp held fuel 32 cs = some x) : ∃ a : Ck, cs = ccL a := by
  obtain ⟨_, _, h0⟩ := trod_field (i := 0) under_cc flds_cc rfl h
  rw [cellsOf_num] at h0
  obtain ⟨a0, e0⟩ := cells_num h0
  obtain ⟨_, _, h1⟩ := trod_field (i := 1) under_cc flds_cc rfl h
  rw [cellsOf_root] at h1
  obtain ⟨a1, e1⟩ := cells_root h1
  refine ⟨⟨a0, a1⟩, ?_⟩
  unfold ccL
  have j0 := seg_join cs 0 1
  rw [e0] at j0
  have j1 := seg_join cs 1 32
  rw [e1] at j1
  have jl : cs.drop 33 = [] := List.drop_of_length_le (by omega)
  rw [show (1 + 32) = 33 from rfl, jl, List.append_nil] at j1
  rw [← List.drop_zero (l := cs)]
  rw [← j0]
  rw [show cs.drop (0 + 1) = cs.drop 1 from rfl, ← j1]
  try rfl
set_option maxRecDepth 100000 in
theorem open_cc {r : Reach} {b0 : Nat} {v : Value} {d : DataW H} {ps : List MemPlace} (hval : Value.okWide Try.prog w r b0 32 v) (hd : DataW.Trod enc Try.prog w base sp held 32 v d ps) : ∃ a : Ck, v = .agg (cc a) := by
  obtain ⟨xs, rfl, hn⟩ := okWide_struct under_cc hval
  rw [cellsOf_cc] at hn
  obtain ⟨fuel, hf⟩ := hd
  obtain ⟨a, ha⟩ := cells_cc (cs := xs.toList) (by rw [Array.length_toList, hn]) hf
  exact ⟨a, by rw [show xs = cc a from Array.toList_inj.1 ha]⟩
end
def Ecc : Lie Ck := ⟨32, 33, ccL, by decide, cc_len, cc_one⟩
attribute [irreducible] cc
end Go.Proofs.Ytlhnjaeocoafnaa
namespace Go.Proofs.Ytlhnjaeocoafnaa
set_option maxRecDepth 100000

def subM (a b : UInt64) : Prop := a &&& b = a
theorem u64_ext {a b : UInt64} (h : ∀ i, a.toNat.testBit i = b.toNat.testBit i) : a = b := UInt64.toNat_inj.1 (Nat.eq_of_testBit_eq h)
theorem bit_and (a b : UInt64) (i : Nat) : (a &&& b).toNat.testBit i = (a.toNat.testBit i && b.toNat.testBit i) := by rw [UInt64.toNat_and, Nat.testBit_and]
theorem bit_or (a b : UInt64) (i : Nat) : (a ||| b).toNat.testBit i = (a.toNat.testBit i || b.toNat.testBit i) := by rw [UInt64.toNat_or, Nat.testBit_or]
theorem subM_iff {a b : UInt64} : subM a b ↔ ∀ i, a.toNat.testBit i = true → b.toNat.testBit i = true := by
  unfold subM
  constructor
  · intro e i hi
    rw [← e, bit_and, Bool.and_eq_true] at hi
    exact hi.2
  · intro h
    refine u64_ext fun i => ?_
    rw [bit_and]
    cases e : a.toNat.testBit i with
    | false => rfl
    | true => rw [h i e]; rfl
theorem subM_refl (a : UInt64) : subM a a := subM_iff.2 fun _ h => h
theorem subM_trans {a b c : UInt64} (h : subM a b) (k : subM b c) : subM a c := subM_iff.2 fun i hi => subM_iff.1 k i (subM_iff.1 h i hi)
theorem subM_left (a b : UInt64) : subM a (a ||| b) := subM_iff.2 fun i hi => by rw [bit_or, hi]; rfl
theorem subM_right (a b : UInt64) : subM b (a ||| b) := subM_iff.2 fun i hi => by rw [bit_or, hi, Bool.or_true]
end Go.Proofs.Ytlhnjaeocoafnaa
namespace Go.Proofs.Ytlhnjaeocoafnaa
set_option maxRecDepth 100000

structure Lk where
  s : Ck
  t : Ck
  mask : UInt64
theorem Lk.ext {x y : Lk} (h0 : x.s = y.s) (h1 : x.t = y.t) (h2 : x.mask = y.mask) : x = y := by cases x; cases y; simp_all
instance : DecidableEq Lk := fun x y => decidable_of_iff (x.s = y.s ∧ x.t = y.t ∧ x.mask = y.mask) ⟨fun h => Lk.ext h.1 h.2.1 h.2.2, fun h => by subst h; exact ⟨rfl, rfl, rfl⟩⟩

/-! ### bits -/

/-! ### clashes -/
def oneB (a b : Lk) : Bool := decide (a.s = b.s ∧ a.t = b.t)
def roundB (a b : Lk) : Bool := decide (a.s.epoch.toNat < b.s.epoch.toNat ∧ b.t.epoch.toNat < a.t.epoch.toNat)
def clashB (a b : Lk) : Bool := (!oneB a b && decide (a.t.epoch = b.t.epoch)) || (roundB a b || roundB b a)
theorem clash_comm (a b : Lk) : clashB a b = clashB b a := by
  have h1 : oneB a b = oneB b a := by
    unfold oneB
    rw [Bool.eq_iff_iff, decide_eq_true_iff, decide_eq_true_iff]
    exact ⟨fun h => ⟨h.1.symm, h.2.symm⟩, fun h => ⟨h.1.symm, h.2.symm⟩⟩
  have h2 : decide (a.t.epoch = b.t.epoch) = decide (b.t.epoch = a.t.epoch) := by
    rw [Bool.eq_iff_iff, decide_eq_true_iff, decide_eq_true_iff]
    exact ⟨Eq.symm, Eq.symm⟩
  unfold clashB
  rw [h1, h2, Bool.or_comm (roundB a b)]
theorem clash_self (a : Lk) : clashB a a = false := by
  unfold clashB oneB roundB
  simp
/-- The bits that two of them that clash have both: of the first n, each against those ahead of it. -/
def lkAt (ls : List Lk) (i : Nat) : Lk := ls.getD i ⟨zcc, zcc, 0⟩
def guiltIn (ls : List Lk) (i : Nat) : Nat → UInt64 → UInt64
  | 0, g => g
  | k + 1, g => let g := guiltIn ls i k g; if clashB (lkAt ls i) (lkAt ls k) = true then g ||| ((lkAt ls i).mask &&& (lkAt ls k).mask) else g
def guiltF (ls : List Lk) : Nat → UInt64
  | 0 => 0
  | i + 1 => guiltIn ls i i (guiltF ls i)
def guiltT (ls : List Lk) : UInt64 := guiltF ls ls.length
section
variable {ls : List Lk}
theorem guiltIn_bit (i j : Nat) (g : UInt64) : ∀ k, (guiltIn ls i k g).toNat.testBit j = true ↔ g.toNat.testBit j = true ∨ ∃ m, m < k ∧ clashB (lkAt ls i) (lkAt ls m) = true ∧ (lkAt ls i).mask.toNat.testBit j = true ∧ (lkAt ls m).mask.toNat.testBit j = true
  | 0 => ⟨.inl, fun h => h.elim id fun ⟨m, hm, _⟩ => (by omega)⟩
  | k + 1 => by
    have e : guiltIn ls i (k + 1) g = if clashB (lkAt ls i) (lkAt ls k) = true then guiltIn ls i k g ||| ((lkAt ls i).mask &&& (lkAt ls k).mask) else guiltIn ls i k g := rfl
    rw [e]
    by_cases hc : clashB (lkAt ls i) (lkAt ls k) = true
    · rw [if_pos hc, bit_or, Bool.or_eq_true, guiltIn_bit i j g k, bit_and, Bool.and_eq_true]
      constructor
      · rintro ((h | ⟨m, h1, h2⟩) | h)
        · exact .inl h
        · exact .inr ⟨m, by omega, h2⟩
        · exact .inr ⟨k, by omega, hc, h.1, h.2⟩
      · rintro (h | ⟨m, h1, h2, h3, h4⟩)
        · exact .inl (.inl h)
        · by_cases e : m = k
          · subst e; exact .inr ⟨h3, h4⟩
          · exact .inl (.inr ⟨m, by omega, h2, h3, h4⟩)
    · rw [if_neg hc, guiltIn_bit i j g k]
      constructor
      · rintro (h | ⟨m, h1, h2⟩)
        · exact .inl h
        · exact .inr ⟨m, by omega, h2⟩
      · rintro (h | ⟨m, h1, h2, h3⟩)
        · exact .inl h
        · by_cases e : m = k
          · subst e; exact absurd h2 hc
          · exact .inr ⟨m, by omega, h2, h3⟩
theorem guiltF_bit (j : Nat) : ∀ n, (guiltF ls n).toNat.testBit j = true ↔ ∃ i m, i < n ∧ m < i ∧ clashB (lkAt ls i) (lkAt ls m) = true ∧ (lkAt ls i).mask.toNat.testBit j = true ∧ (lkAt ls m).mask.toNat.testBit j = true
  | 0 => by
    constructor
    · intro h; simp [guiltF] at h
    · rintro ⟨i, m, hi, _⟩; omega
  | n + 1 => by
    rw [show guiltF ls (n + 1) = guiltIn ls n n (guiltF ls n) from rfl, guiltIn_bit, guiltF_bit j n]
    constructor
    · rintro (⟨i, m, h1, h2⟩ | ⟨m, h1, h2⟩)
      · exact ⟨i, m, by omega, h2⟩
      · exact ⟨n, m, by omega, h1, h2⟩
    · rintro ⟨i, m, h1, h2, h3⟩
      by_cases e : i = n
      · subst e; exact .inr ⟨m, h2, h3⟩
      · exact .inl ⟨i, m, by omega, h2, h3⟩
/-- P15.4. -/
theorem guilt_bit (j : Nat) : (guiltT ls).toNat.testBit j = true ↔ ∃ a b, a ∈ ls ∧ b ∈ ls ∧ clashB a b = true ∧ a.mask.toNat.testBit j = true ∧ b.mask.toNat.testBit j = true := by
  have hin : ∀ {i}, i < ls.length → lkAt ls i ∈ ls := fun {i} hi => by
    have : lkAt ls i = ls[i] := by simp [lkAt, hi]
    rw [this]; exact List.getElem_mem hi
  unfold guiltT
  rw [guiltF_bit]
  constructor
  · rintro ⟨i, m, h1, h2, h3⟩
    exact ⟨_, _, hin h1, hin (by omega), h3⟩
  · rintro ⟨a, b, ha, hb, hc, h1, h2⟩
    obtain ⟨i, hi, rfl⟩ := List.getElem_of_mem ha
    obtain ⟨k, hk, rfl⟩ := List.getElem_of_mem hb
    have ei : lkAt ls i = ls[i] := by simp [lkAt, hi]
    have ek : lkAt ls k = ls[k] := by simp [lkAt, hk]
    rcases Nat.lt_trichotomy i k with h | h | h
    · exact ⟨k, i, hk, h, by rw [ei, ek, clash_comm]; exact hc, by rw [ek]; exact h2, by rw [ei]; exact h1⟩
    · subst h; rw [clash_self] at hc; cases hc
    · exact ⟨i, k, hi, h, by rw [ei, ek]; exact hc, by rw [ei]; exact h1, by rw [ek]; exact h2⟩
theorem guilt_pair {a b : Lk} (ha : a ∈ ls) (hb : b ∈ ls) (hc : clashB a b = true) : subM (a.mask &&& b.mask) (guiltT ls) := subM_iff.2 fun i hi => by
  rw [bit_and, Bool.and_eq_true] at hi
  exact (guilt_bit i).2 ⟨a, b, ha, hb, hc, hi.1, hi.2⟩
end

end Go.Proofs.Ytlhnjaeocoafnaa
