/-
  Rings as arguments; awake of layer 4, walked.
-/
import Derived.Test.YtmcnpefnebehfaaRingL
namespace Go.Proofs.Ytmcnpefnebehfaa
open Go.RowKit

/-- A ring's block, and the numbers to which it leads. -/
structure Rg (w : World) (b : Nat) (c : Int) (v : Value) (l : List Int) : Prop where
  m : w.heap[b]? = some (.cells #[.int .i64 c, v] 24 (0, 0))
  s : SlI w v l
theorem Rg.keep {w w' : World} {b : Nat} {c : Int} {v : Value} {l : List Int} (h : Rg w b c v l) (g : Below w.heap.size w w') : Rg w' b c v l := ⟨blk_keep g h.m, slI_keep g h.s⟩
theorem Rg.new {w : World} {c : Int} {v : Value} {l : List Int} (h : SlI w v l) : Rg (w.alloc (.cells #[.int .i64 c, v] 24)) w.heap.size c v l := ⟨heap_alloc_last w _, slI_keep ((Below.refl _ _).alloc (Nat.le_refl _) _) h⟩
abbrev rgO (c : Int) (v : Value) : Obj := .cells #[.int .i64 c, v] 24
theorem below1 {w : World} {o : Obj} : Below w.heap.size w (w.alloc o) := (Below.refl _ _).alloc (Nat.le_refl _) _

section
open Go.WideShapes Go.ChangeShapes
variable {H : Type} {enc : TypeId × Value → H} {w : World} {base : Nat} {sp : Nat → Bool} {held : Bool}
theorem open_ring {r : Reach} {b0 : Nat} {v : Value} {d : DataW H} {ps : List MemPlace} (hval : Value.okWide Try.prog w r b0 24 v) (hd : DataW.Trod enc Try.prog w base sp held 24 v d ps) : ∃ (c : Int) (u : Value) (l : List Int), v = .agg #[.int .i64 c, u] ∧ SlI w u l := by
  obtain ⟨xs, rfl, hn⟩ := okWide_struct Try.underlying24 hval
  obtain ⟨fuel, hf⟩ := hd
  obtain ⟨y0, y1, n, hx, hl, h0, h1⟩ := trod_struct2 Try.underlying24 hf
  have hc : Try.prog.cellsOf 24 = 2 := by kernel_rfl
  have hci : Try.prog.cellsOf 3 = 1 := by kernel_rfl
  have hcs : Try.prog.cellsOf 22 = 1 := by kernel_rfl
  rw [hc] at hn
  obtain ⟨a, b, rfl⟩ : ∃ a b, xs = #[a, b] := by
    obtain ⟨l⟩ := xs
    match l, hn with
    | [a, b], _ => exact ⟨a, b, rfl⟩
  have h0' : DataW.trod enc Try.prog w base sp held n 3 [a] = some y0 := by have := h0; rw [hci] at this; exact this
  have h1' : DataW.trod enc Try.prog w base sp held n 22 [b] = some y1 := by have := h1; rw [hcs] at this; exact this
  obtain ⟨c, e1, _⟩ := DataW.trod_int Try.underlying3 h0'
  have e2 : a = .int .i64 c := (List.cons.inj e1).1
  subst e2
  have hb : ∃ p len cap, b = .slice p len cap := by
    rcases Deep.open_slice1 Try.underlying22 (by kernel_rfl) h1' with ⟨h1, _⟩ | ⟨a', len', cap', m, n, V, D, Pl, h1, _⟩
    · exact ⟨_, _, _, (List.cons.inj h1).1⟩
    · exact ⟨_, _, _, (List.cons.inj h1).1⟩
  obtain ⟨p, len, cap, rfl⟩ := hb
  obtain ⟨l, hl⟩ := cells_ints h1'
  exact ⟨c, _, l, rfl, hl⟩
end

theorem new_is (n : Int) (w : World) (b : Bool) (h : roomB n = b) (m : Int) (hm : (if b = true then n else 0) = m) : Calls Try.prog 16 #[.int .i64 n] w fun e w' => e = .returned (.tuple #[.agg #[.int .i64 m, .slice none 0 0], .bool b]) ∧ Below w.heap.size w w' := by
  have := new_any n w
  unfold NewIs at this
  rwa [h, hm] at this

set_option maxRecDepth 100000 in
set_option maxHeartbeats 1000000 in
theorem awake_any (w : World) : Calls Try.prog 9 #[] w fun e w' => e = .returned (.bool true) ∧ Below w.heap.size w w' := by
  have HC1 := Lib.hid (fun W => new_is 1 W true rfl 1 rfl)
  have HC2 : Hid (∀ W vn, SlI W vn [5, 6, -1, -1] → Calls Try.prog 14 #[.agg #[.int .i64 1, .slice none 0 0], vn] W fun e w' => ∃ v u, e = .returned (.tuple #[.agg #[.int .i64 1, v], u]) ∧ OwnI w' W.heap.size v [] ∧ OwnI w' W.heap.size u [1, 0, 5, -1] ∧ Below W.heap.size W w') := fun W vn h => rrun_any 1 (.slice none 0 0) [] vn [5, 6, -1, -1] W (slI_nil _ _ _) h (by simp) (by simp)
  have HC3 : Hid (∀ W v u, SlI W v [1, 0, 5, -1] → SlI W u [1, 0, 5, -1] → Calls Try.prog 19 #[v, u] W fun e w' => e = .returned (.bool true) ∧ Below W.heap.size W w') := fun W v u h1 h2 => ints_any v u [1, 0, 5, -1] [1, 0, 5, -1] W h1 h2 (by simp)
  have HC4 : Hid (∀ W p cap, Calls Try.prog 21 #[.agg #[.int .i64 1, .slice p 0 cap]] W fun e w' => e = .returned (.bool true) ∧ Below W.heap.size W w') := fun W p cap => may_any 1 p cap [] W
  go_enter Try.func9, Try.ntmps9
  go_wp2_with fail
  refine (HC1.out _).mono ?_
  rintro e w1 ⟨rfl, g1⟩
  have B1 := Lib.hid g1
  clear g1
  go_wp2_with fail
  refine (HC2.out _ _ (slI_lit _ [5, 6, -1, -1] _ _ _ (by simp) rfl)).mono ?_
  rintro e w2 ⟨v2, u2, rfl, hv2, hu2, g2⟩
  have B2 := Lib.hid (belowT ((B1.out.alloc B1.out.size (.cells #[.int .i64 1, .slice none 0 0] 24)).alloc (by have := B1.out.size; simp; omega) (.cells #[.int .i64 5, .int .i64 6, .int .i64 (-1), .int .i64 (-1)] 3)) g2)
  have V2 := Lib.hid (ownI_slI hv2)
  have U2 := Lib.hid (ownI_slI hu2)
  obtain ⟨p2, cap2, hp2⟩ := ownI_shape hv2
  have hp2' : v2 = .slice p2 0 cap2 := hp2
  subst hp2'
  clear hv2 hu2 g2 hp2
  go_wp2_with fail
  refine (HC3.out _ _ _ (slI_keep (belowT below1 below1) U2.out) (slI_lit _ [1, 0, 5, -1] _ _ _ (by simp) rfl)).mono ?_
  rintro e w3 ⟨rfl, g3⟩
  have R3 := Lib.hid ((Rg.new (c := 1) V2.out).keep (belowT below1 g3))
  have B3 := Lib.hid (belowT B2.out (belowT (belowT below1 below1) g3))
  obtain ⟨x0, x1, _, _, xl⟩ := cells2 R3.out.m
  clear g3
  go_wp2_with fail
  refine (HC4.out _ _ _).mono ?_
  rintro e w4 ⟨rfl, g4⟩
  go_wp2_with fail
  go_ret
  exact ⟨rfl, belowT B3.out g4⟩
end Go.Proofs.Ytmcnpefnebehfaa
