/-
  The last step of a row where the call has only made new memory: a lemma of the guide's own kind, for every program.
  Roots in a walk, in any translation that has the type: load, store, variables, literals, ==, an argument; no function of the program.
-/
import Derived.Below
import Derived.ChangeSame
import Derived.WalkKit
import Derived.Test.YtlhnjaeocoafnaaQ01
import Derived.Test.YtlhnjaeocoafnaaRows
import Derived.Outline
import Derived.Deep.QuietTactic
import Derived.BigQuiet
import Derived.Lib.Hide
import Derived.ChangeKeysEq
import Derived.WideKeyArr2
import Derived.Carry
import Derived.Deep.Slices
import Derived.OpenShut
import Derived.ChangeMaps5
namespace Go.Proofs.Ytlhnjaeocoafnaa
open Go.RowKit Go.WideShapes Go.ChangeShapes
set_option maxRecDepth 100000
section
variable {H : Type} {enc : TypeId × Value → H} {P : Program}
theorem post_of_below {f : Func} {s : ChangeSpec} {apart fresh handsOn again : Bool} {W W' : World} {args : Array Value} {v : Value} {ds gs : List (DataW H)} {before pa pv : List MemPlace}
    (hW : DataW.Whole enc P f.params.toList s.vars apart W args.toList ds gs before)
    (hres : ∀ (b : Nat) (sp : Nat → Bool) (hd : Bool), DataW.TrodAll enc P W' b sp hd f.resultTypes.toList (v.resultList f.resultTypes.size) (s.fn H (ds ++ gs)).results [])
    (hargs : ∀ sp : Nat → Bool, (∀ p ∈ before, sp p.block = true) → DataW.TrodAll enc P W' 0 sp true f.params.toList args.toList (s.fn H (ds ++ gs)).args pa)
    (hvars : ∀ sp : Nat → Bool, (∀ p ∈ before, sp p.block = true) → DataW.TrodVars enc P W' sp s.vars (s.fn H (ds ++ gs)).vars pv)
    (hps : before = pa ++ pv) (hb : Below W.heap.size W W')
    (hok : ∀ (j : Nat) (t : TypeId) (r : Value), f.resultTypes[j]? = some t → (v.resultList f.resultTypes.size)[j]? = some r → Value.okWide P W' .any 0 t r) :
    s.post enc P f apart fresh handsOn again W args v W' := by
  have hlt : ∀ p ∈ before, p.block < W.heap.size := fun p hp => hW.lt p hp
  have hold : ∀ p ∈ before, (fun b => decide (b < W.heap.size)) p.block = true := fun p hp => by simpa using hlt p hp
  refine ⟨ds, gs, before, [], pa, pv, hW, hres _ _ _, hargs _ hold, hvars _ hold, World.keptBut_mono (fun p hp => ⟨hp, ?_⟩) (hb.frame (· ∈ before)), fun _ => ?_⟩
  · rw [hps, List.mem_append] at hp
    exact Or.inr hp
  · obtain ⟨_, _, _, _, _, hz, hn⟩ := hW
    refine ⟨hok, _, _, ([] ++ pa) ++ pv, ⟨[] ++ pa, pv, trodAll_append (hargs _ (fun _ _ => rfl)) (hres _ _ _), hvars _ (fun _ _ => rfl), rfl, ?_, ?_⟩, ?_⟩
    · intro b off hp
      have hin : MemPlace.cell b off ∈ before := by rw [hps]; simpa using hp
      rw [hb.frozen (hlt _ hin)]
      exact hz b off hin
    · intro ha
      have := hn ha
      rw [hps] at this
      simpa using this
    · intro p hp _
      rw [hps]
      simpa using hp
end
end Go.Proofs.Ytlhnjaeocoafnaa
namespace Go.Proofs.Ytlhnjaeocoafnaa
open Go.RowKit Go.WideShapes Go.ChangeShapes
set_option maxRecDepth 100000

/-- Are two roots the same? -/
def eqB (a b : Rt) : Bool := decide (a = b)
theorem at8_ext {a b : Rt} (h : ∀ i, i < 32 → at8 a i = at8 b i) : a = b := by
  apply Vector.toList_inj.1
  apply List.ext_getElem (by simp)
  intro i h1 h2
  have := h i (by simpa using h1)
  unfold at8 at this
  rw [getD_in _ h1, getD_in _ h2] at this
  exact UInt8.toNat_inj.1 (by omega)
theorem eqB_range (a b : Rt) : ((List.range 32).all fun i => at8 a i == at8 b i) = eqB a b := by
  unfold eqB
  rw [Bool.eq_iff_iff, List.all_eq_true, decide_eq_true_iff]
  constructor
  · intro h
    exact at8_ext fun i hi => by simpa using h i (List.mem_range.2 hi)
  · rintro rfl i _
    simp
theorem part_rc (a : Rt) (i : Nat) (hi : i < 32) (w : World) : (part 5 (rc a) i).run Try.prog w = .ok (.int .u8 (at8 a i)) w := by
  have h := rc_get a i hi
  have a5 := Try.isAgg5
  unfold part
  go_simp

theorem eqItems_rc (n : Nat) (a b : Rt) (w : World) : ∀ is : List Nat, (∀ i ∈ is, i < 32) →
    (Op.eqItems (n + 1) 5 1 (rc a) (rc b) is).run Try.prog w = .ok (is.all fun i => at8 a i == at8 b i) w
  | [], _ => by simp [Op.eqItems]
  | i :: is, h => by
    have hi := h i (by simp)
    have ih := eqItems_rc n a b w is (fun j hj => h j (by simp [hj]))
    have u5 := Try.underlying5
    have e1 : (Op.equalIn (n + 1) 5 (.int .u8 (at8 a i)) (.int .u8 (at8 b i))).run Try.prog w = .ok (at8 a i == at8 b i) w := by
      rw [Op.equalIn]
      go_simp
    simp only [Op.eqItems, Nat.mul_one, Sem.run_bind, part_rc a i hi, part_rc b i hi, Result.andThen_ok, e1]
    by_cases e : at8 a i = at8 b i
    · simp [e, ih]
    · simp [e]

theorem eqRootN (n : Nat) (a b : Rt) (w : World) : (Op.equalIn (n + 2) 30 (.agg (rc a)) (.agg (rc b))).run Try.prog w = .ok (eqB a b) w := by
  obtain ⟨i, hi⟩ : ∃ i, Try.prog.info? 5 = some i := Option.isSome_iff_exists.1 (by kernel_rfl)
  rw [run_equalIn_array w (n + 1) (rc a) (rc b) Try.underlying30 hi]
  rw [show Try.prog.cellsOf 5 = 1 by kernel_rfl, eqItems_rc n a b w _ (fun i h => List.mem_range.1 h), eqB_range]
@[go_sem] theorem eqRoot (a b : Rt) (w : World) : (Op.equalIn 10000 30 (.agg (rc a)) (.agg (rc b))).run Try.prog w = .ok (eqB a b) w := eqRootN 9998 a b w
theorem eqB_self (a : Rt) : eqB a a = true := by simp [eqB]
theorem eqB_iff (a b : Rt) : eqB a b = true ↔ a = b := by simp [eqB]

attribute [go_sem] rc_size
@[go_sem] theorem okA_rc (r : Rt) : okA 32 (.agg (rc r)) = true := by
  show ((rc r).size == 32 && (rc r).all (·.oneCell')) = true
  rw [rc_one, rc_size]; rfl
@[go_sem ↓] theorem load_root (ρ : Operand → Value) (dst : Option Tmp) (x : Operand) (ty : TypeId) (pos : String) (after : Array Edge) (guard : Option (Nat × Bool)) (w : World) :
    (execOp ρ { dst, op := .load 30 x, type := ty, pos, after, guard }).run Try.prog w = ldOut (ldA w (ρ x) 32) w (opRest Try.prog ρ { dst, op := .load 30 x, type := ty, pos, after, guard } w) :=
  run_load_out Try.isAgg30 Try.sizeOf30 ρ dst x ty pos after guard w
@[go_sem ↓] theorem store_root (ρ : Operand → Value) (dst : Option Tmp) (x y : Operand) (ty : TypeId) (pos : String) (after : Array Edge) (guard : Option (Nat × Bool)) (w : World) :
    (execOp ρ { dst, op := .store 30 x y, type := ty, pos, after, guard }).run Try.prog w = stOut (wrA w (ρ x) 32 && okA 32 (ρ y)) (stA w (ρ x) (ρ y)) (opRest Try.prog ρ { dst, op := .store 30 x y, type := ty, pos, after, guard } w) :=
  run_store_out Try.sizeOf30 ρ dst x y ty pos after guard w

/-- The zero root. -/
def zr : Rt := Vector.replicate 32 0
theorem rc_zr : rc zr = #[.int .u8 0, .int .u8 0, .int .u8 0, .int .u8 0, .int .u8 0, .int .u8 0, .int .u8 0, .int .u8 0, .int .u8 0, .int .u8 0, .int .u8 0, .int .u8 0, .int .u8 0, .int .u8 0, .int .u8 0, .int .u8 0, .int .u8 0, .int .u8 0, .int .u8 0, .int .u8 0, .int .u8 0, .int .u8 0, .int .u8 0, .int .u8 0, .int .u8 0, .int .u8 0, .int .u8 0, .int .u8 0, .int .u8 0, .int .u8 0, .int .u8 0, .int .u8 0] := by kernel_rfl
theorem zero_root (w : World) : (zeroValue 30).run Try.prog w = .ok (.agg (rc zr)) w := by
  rw [rc_zr]; exact Try.zeroValue30 w

@[go_sem ↓] theorem alloc_root (ρ : Operand → Value) (dst : Option Tmp) (ty : TypeId) (pos : String) (after : Array Edge) (guard : Option (Nat × Bool)) (w : World) :
    (execOp ρ { dst, op := .alloc 30, type := ty, pos, after, guard }).run Try.prog w = .ok (.value (.pointer (some ⟨w.heap.size, 0, none⟩))) (w.alloc (.cells (rc zr) 30)) := by
  unfold execOp
  simp only [Instr.alloc, Sem.run_bind, zero_root, Result.andThen_ok]
  rfl
@[go_sem ↓] theorem build_root (ρ : Operand → Value) (dst : Option Tmp) (ty : TypeId) (pos : String) (after : Array Edge) (guard : Option (Nat × Bool)) (w : World) :
    (execOp ρ { dst, op := .build 30 #[], type := ty, pos, after, guard }).run Try.prog w = .ok (.value (.agg (rc zr))) w := by
  unfold execOp
  simp only [Instr.build, Sem.run_bind, zero_root, Result.andThen_ok, run_underlying Try.underlying30, Try.sizeOf5]
  simp [Instr.fill, Value.cells]

/-- An aggregate's cells. -/
def cellsA : Value → Array Value
  | .agg c => c
  | _ => #[]
attribute [go_sem] cellsA
theorem foldl_zip (z c : Array Value) (h : c.size = z.size) : Array.foldl (fun cs (p : Value × Nat) => cs.setIfInBounds p.2 p.1) z c.zipIdx 0 c.size = c := by
  have e : Array.foldl (fun cs (p : Value × Nat) => cs.setIfInBounds p.2 p.1) z c.zipIdx 0 c.size = ((c.toList.zipIdx 0).foldl (fun c p => c.setIfInBounds p.2 p.1) z) := by
    have h2 : c.size = c.zipIdx.size := by simp
    rw [h2, ← Array.foldl_toList, Array.toList_zipIdx]
  rw [e]
  apply Array.ext_getElem?
  intro j
  rw [foldl_set]
  by_cases hj : j < c.size
  · rw [if_pos (by simp; omega)]; simp
  · rw [if_neg (by simp; omega), Array.getElem?_eq_none (by omega), Array.getElem?_eq_none (by omega)]
theorem arr_root : WideMaps.ArrKey Try.prog 30 5 32 := ⟨Try.underlying30, by kernel_rfl, by kernel_rfl, by kernel_rfl⟩
theorem rc_ones (r : Rt) : ∀ u ∈ (rc r).toList, u.oneCell' = true := fun u h => (Array.all_eq_true_iff_forall_mem.1 (rc_one r)) u (by simpa using h)

section
variable {H : Type} {enc : TypeId × Value → H} {P : Program}
/-- Behind a call that has only made new memory the arguments read as they did. -/
theorem trodAll_below (hl : laidOutB P = true) {W W' : World} (hb : Below W.heap.size W W') (sp : Nat → Bool) : ∀ {ts : List TypeId} {vs : List Value} {ds : List (DataW H)} {ps : List MemPlace}, (ts.all fun t => P.readableRec t && decide (t < P.types.size)) = true → DataW.TrodAll enc P W 0 (fun _ => true) true ts vs ds ps → (∀ x ∈ ps, x.block < W.heap.size) → (∀ x ∈ ps, sp x.block = true) → DataW.TrodAll enc P W' 0 sp true ts vs ds ps
  | [], [], _, _, _, h, _, _ => by
    obtain ⟨h1, h2, h3⟩ := trodAll_nil h
    subst h2 h3
    exact trodAll_mk0
  | [], _ :: _, _, _, _, h, _, _ => by
    obtain ⟨h1, _, _⟩ := trodAll_nil h
    cases h1
  | t :: ts, vs, ds, ps, hr, h, hlt, hsp => by
    obtain ⟨v, vs', d, ds', p, q, rfl, rfl, rfl, h1, h2⟩ := trodAll_cons h
    rw [List.all_cons, Bool.and_eq_true, Bool.and_eq_true, decide_eq_true_eq] at hr
    exact trodAll_cons_mk (WideElems.Trod_stays hl hr.1.1 hr.1.2 h1 (fun x hx => hb.same (hlt x (by simp [hx]))) (fun x hx => hsp x (by simp [hx])))
      (trodAll_below hl hb sp hr.2 h2 (fun x hx => hlt x (by simp [hx])) (fun x hx => hsp x (by simp [hx])))
end
section
variable {H : Type} {enc : TypeId × Value → H} {w : World} {base : Nat} {sp : Nat → Bool} {held : Bool}
set_option maxRecDepth 100000 in
theorem cells_root {fuel : Nat} {cs : List Value} {x : DataW H × List MemPlace} (h : DataW.trod enc Try.prog w base sp held fuel 30 cs = some x) : ∃ r : Rt, cs = (rc r).toList := by
  obtain ⟨xs, m, _, _, hl, hxl, hx⟩ := DataW.trod_array Try.underlying30 h
  rw [arr_root.size] at hl
  rw [arr_root.one] at hx
  have hc : ∀ i, i < 32 → ∃ n : Int, cs[i]? = some (.int .u8 n) ∧ 0 ≤ n ∧ n < 256 := fun i hi => by
    have h1 := hx i hi
    rw [List.getElem?_eq_getElem (by omega)] at h1
    obtain ⟨n, e1, _, e3⟩ := DataW.trod_int Try.underlying5 h1
    rw [Nat.mul_one, List.drop_eq_getElem_cons (by omega)] at e1
    have e4 : cs[i]'(by omega) = .int .u8 n := by
      rw [List.take_succ_cons, List.take_zero] at e1
      exact (List.cons.inj e1).1
    have hb : (decide (IntKind.u8.min ≤ n) && decide (n ≤ IntKind.u8.max)) = true := e3
    rw [Bool.and_eq_true, decide_eq_true_eq, decide_eq_true_eq, show IntKind.u8.min = 0 from rfl, show IntKind.u8.max = 255 from rfl] at hb
    exact ⟨n, by rw [List.getElem?_eq_getElem (by omega), e4], by omega, by omega⟩
  obtain ⟨f, hf⟩ := Deep.choose_lt hc
  refine ⟨Vector.ofFn fun i : Fin 32 => UInt8.ofNat (f i.val).toNat, ?_⟩
  apply List.ext_getElem?
  intro i
  by_cases hi : i < 32
  · obtain ⟨h1, h2, h3⟩ := hf i hi
    rw [h1, Array.getElem?_toList, rc_get _ i hi]
    unfold at8
    rw [getD_in _ (by simp; exact hi)]
    simp
    omega
  · rw [List.getElem?_eq_none (by omega), List.getElem?_eq_none (by simp [rc_size]; omega)]

set_option maxRecDepth 100000 in
/-- An argument that is a root. -/
theorem open_root {r : Reach} {b0 : Nat} {v : Value} {d : DataW H} {ps : List MemPlace} (hval : Value.okWide Try.prog w r b0 30 v) (hd : DataW.Trod enc Try.prog w base sp held 30 v d ps) : ∃ r : Rt, v = .agg (rc r) := by
  obtain ⟨xs, rfl, _⟩ := WideMaps.okWide_arr arr_root hval
  obtain ⟨fuel, hf⟩ := hd
  obtain ⟨r, hr⟩ := cells_root hf
  refine ⟨r, ?_⟩
  have : xs = rc r := Array.toList_inj.1 hr
  rw [this]

end
end Go.Proofs.Ytlhnjaeocoafnaa
