/-
  From a law's walk to its row: arguments opened, whatever their types, and read again behind the call; for every program, and for roots.
-/
import Derived.Test.YtecppjbbodpcnaaRootC
import Derived.Test.YtecppjbbodpcnaaBase
import Derived.Carry
import Derived.Deep.Slices
import Derived.OpenShut
import Derived.ChangeMaps5
import Derived.Lib.LaidU8
namespace Go.Proofs.Ytecppjbbodpcnaa
open Go.RowKit Go.WideShapes Go.ChangeShapes
section
variable {H : Type} {enc : TypeId × Value → H} {P : Program}
/-- Behind a call that has only made new memory the arguments read as they did. -/
theorem trodAll_below (hl : laidOutB P = true) {W W' : World} (hb : Below W.heap.size W W') (sp : Nat → Bool) : ∀ {ts : List TypeId} {vs : List Value} {ds : List (DataW H)} {ps : List MemPlace}, (ts.all fun t => P.readableRec t && decide (t < P.types.size)) = true → DataW.TrodAll enc P W 0 (fun _ => true) true ts vs ds ps → (∀ x ∈ ps, x.block < W.heap.size) → (∀ x ∈ ps, sp x.block = true) → DataW.TrodAll enc P W' 0 sp true ts vs ds ps
  | [], [], _, _, _, h, _, _ => by
    obtain ⟨h1, h2, h3⟩ := trodAll_nil h
    subst h2 h3
    exact trodAll_mk0
  | [], _ :: _, _, _, _, h, _, _ => by
    obtain ⟨h1, _, _⟩ := trodAll_nil h
    cases h1
  | t :: ts, vs, ds, ps, hr, h, hlt, hsp => by
    obtain ⟨v, vs', d, ds', p, q, rfl, rfl, rfl, h1, h2⟩ := trodAll_cons h
    rw [List.all_cons, Bool.and_eq_true, Bool.and_eq_true, decide_eq_true_eq] at hr
    exact trodAll_cons_mk (WideElems.Trod_stays hl hr.1.1 hr.1.2 h1 (fun x hx => hb.same (hlt x (by simp [hx]))) (fun x hx => hsp x (by simp [hx])))
      (trodAll_below hl hb sp hr.2 h2 (fun x hx => hlt x (by simp [hx])) (fun x hx => hsp x (by simp [hx])))
end
section
variable {H : Type} {enc : TypeId × Value → H} {w : World} {base : Nat} {sp : Nat → Bool} {held : Bool}
theorem cells_root {fuel : Nat} {cs : List Value} {x : DataW H × List MemPlace} (h : DataW.trod enc Try.prog w base sp held fuel 23 cs = some x) : ∃ r : Rt, cs = (rc r).toList := by
  obtain ⟨xs, m, _, _, hl, hxl, hx⟩ := DataW.trod_array Try.underlying23 h
  rw [arr_root.size] at hl
  rw [arr_root.one] at hx
  have hc : ∀ i, i < 32 → ∃ n : Int, cs[i]? = some (.int .u8 n) ∧ 0 ≤ n ∧ n < 256 := fun i hi => by
    have h1 := hx i hi
    rw [List.getElem?_eq_getElem (by omega)] at h1
    obtain ⟨n, e1, _, e3⟩ := DataW.trod_int Try.underlying5 h1
    rw [Nat.mul_one, List.drop_eq_getElem_cons (by omega)] at e1
    have e4 : cs[i]'(by omega) = .int .u8 n := by
      rw [List.take_succ_cons, List.take_zero] at e1
      exact (List.cons.inj e1).1
    have hb : (decide (IntKind.u8.min ≤ n) && decide (n ≤ IntKind.u8.max)) = true := e3
    rw [Bool.and_eq_true, decide_eq_true_eq, decide_eq_true_eq, show IntKind.u8.min = 0 from rfl, show IntKind.u8.max = 255 from rfl] at hb
    exact ⟨n, by rw [List.getElem?_eq_getElem (by omega), e4], by omega, by omega⟩
  obtain ⟨f, hf⟩ := Deep.choose_lt hc
  refine ⟨Vector.ofFn fun i : Fin 32 => UInt8.ofNat (f i.val).toNat, ?_⟩
  apply List.ext_getElem?
  intro i
  by_cases hi : i < 32
  · obtain ⟨h1, h2, h3⟩ := hf i hi
    rw [h1, Array.getElem?_toList, rc_get _ i hi]
    unfold at8
    rw [getD_in _ (by simp; exact hi)]
    simp
    omega
  · rw [List.getElem?_eq_none (by omega), List.getElem?_eq_none (by simp [rc_size]; omega)]

/-- An argument that is a root. -/
theorem open_root {r : Reach} {b0 : Nat} {v : Value} {d : DataW H} {ps : List MemPlace} (hval : Value.okWide Try.prog w r b0 23 v) (hd : DataW.Trod enc Try.prog w base sp held 23 v d ps) : ∃ r : Rt, v = .agg (rc r) := by
  obtain ⟨xs, rfl, _⟩ := WideMaps.okWide_arr arr_root hval
  obtain ⟨fuel, hf⟩ := hd
  obtain ⟨r, hr⟩ := cells_root hf
  refine ⟨r, ?_⟩
  have : xs = rc r := Array.toList_inj.1 hr
  rw [this]

/-- An argument that is a list of roots. -/
theorem open_roots {r : Reach} {b0 : Nat} {v : Value} {d : DataW H} {ps : List MemPlace} (hval : Value.okWide Try.prog w r b0 24 v) (hd : DataW.Trod enc Try.prog w base sp held 24 v d ps) : ∃ l : List Rt, SlR w v l := by
  obtain ⟨a, len, cap, rfl⟩ := okWide_slice Try.underlying24 hval
  obtain ⟨fuel, hf⟩ := hd
  rcases Deep.open_slice Try.underlying24 hf with ⟨h1, _⟩ | ⟨a', len', cap', m, n, D, Pl, h1, _, hl, hm, hmm, _, hx⟩
  · simp [Value.cells] at h1
    obtain ⟨rfl, rfl, rfl⟩ := h1
    exact ⟨[], none, 0, rfl, .inl rfl⟩
  · simp [Value.cells] at h1
    obtain ⟨rfl, rfl, rfl⟩ := h1
    have hle : len ≤ m := by rw [hmm]; split <;> omega
    rw [arr_root.size] at hx
    by_cases h0 : len = 0
    · subst h0
      exact ⟨[], _, cap, rfl, .inl rfl⟩
    · have hr : ∀ i, i < len → ∃ r : Rt, ∀ j, j < 32 → w.cell? ((a'.add (i * 32)).add j) = some (.int .u8 (at8 r j)) := fun i hi => by
        obtain ⟨cs, h1, h2⟩ := hx i (by omega)
        obtain ⟨r, rfl⟩ := cells_root h2
        obtain ⟨_, _, h3⟩ := World.cells?_some h1
        refine ⟨r, fun j hj => ?_⟩
        rw [h3 j hj, Array.getElem?_toList, rc_get r j hj]
      obtain ⟨b, off, s⟩ := a'
      obtain rfl : s = none := by
        obtain ⟨r, h⟩ := hr 0 (by omega)
        have := h 0 (by omega)
        rw [show (⟨b, off, s⟩ : Addr).add (0 * 32) = ⟨b, off, s⟩ by simp [Addr.add], show (⟨b, off, s⟩ : Addr).add 0 = ⟨b, off, s⟩ by simp [Addr.add]] at this
        exact cell_spot this
      have hrI : ∀ i, i < len → ∃ r : Rt, ∀ j, j < 32 → w.cell? ⟨b, off + i * 32 + j, none⟩ = some (.int .u8 (at8 r j)) := fun i hi => by
        obtain ⟨r, h⟩ := hr i hi
        exact ⟨r, fun j hj => by have := h j hj; rwa [Addr.add_mid, Addr.add_mid] at this⟩
      haveI : Inhabited Rt := ⟨zr⟩
      obtain ⟨f, hf2⟩ := Deep.choose_lt hrI
      refine ⟨(List.range len).map f, some ⟨b, off, none⟩, cap, by simp, .inr ⟨b, off, rfl, ?_, fun i hi => ?_⟩⟩
      · exact block_lt_of_cell (hf2 0 (by omega) 0 (by omega))
      · have hi' : i < len := by simpa using hi
        refine ldA_mk (rc_size _) fun j v hv => ?_
        have hj : j < 32 := by have := (List.getElem?_eq_some_iff.1 hv).1; simpa [rc_size] using this
        rw [hf2 i hi' j hj, ← hv, Array.getElem?_toList, rc_get _ j hj]
        simp
end
end Go.Proofs.Ytecppjbbodpcnaa
