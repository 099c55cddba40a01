/-
  Arguments that are blocks, checkpoints, attestations: opened.
-/
import Derived.Test.YtjdpndclgmdahaaWireG
namespace Go.Proofs.Ytjdpndclgmdahaa
open Go.RowKit Go.WideShapes Go.ChangeShapes
section
variable {H : Type} {enc : TypeId × Value → H} {P : Program} {w : World} {base : Nat} {sp : Nat → Bool} {held : Bool}
theorem trod_field {T : TypeId} {fs : Array Field} {fl : List (String × TypeId × Nat)} {i : Nat} {n : String} {t : TypeId} {o fuel : Nat} {cs : List Value} {x : DataW H × List MemPlace} (hu : P.underlying T = some (.struct fs)) (hf : fs.toList.map (fun f => (f.name, f.type, f.offset)) = fl) (hi : fl[i]? = some (n, t, o)) (h : DataW.trod enc P w base sp held fuel T cs = some x) :
    ∃ m y, DataW.trod enc P w base sp held m t ((cs.drop o).take (P.cellsOf t)) = some y := by
  obtain ⟨xs, m, _, _, _, hlen, hx⟩ := DataW.trod_struct hu h
  rw [← hf, List.getElem?_map, Option.map_eq_some_iff] at hi
  obtain ⟨f, hfi, e⟩ := hi
  injection e with _ e
  injection e with e1 e2
  have hfa : fs[i]? = some f := by simpa using hfi
  have hi' : i < fs.size := (Array.getElem?_eq_some_iff.1 hfa).1
  have := hx i f hfa
  rw [e1, e2, List.getElem?_eq_getElem (by omega)] at this
  exact ⟨m, _, this⟩
end
section
variable {H : Type} {enc : TypeId × Value → H} {w : World} {base : Nat} {sp : Nat → Bool} {held : Bool}
theorem cells_num {fuel : Nat} {cs : List Value} {x : DataW H × List MemPlace} (h : DataW.trod enc Try.prog w base sp held fuel 24 cs = some x) : ∃ n : UInt64, cs = [num n] := by
  obtain ⟨n, e1, _, e3⟩ := DataW.trod_int Try.underlying24 h
  have hb : (decide (IntKind.u64.min ≤ n) && decide (n ≤ IntKind.u64.max)) = true := e3
  rw [Bool.and_eq_true, decide_eq_true_eq, decide_eq_true_eq, show IntKind.u64.min = 0 from rfl, show IntKind.u64.max = 18446744073709551615 from rfl] at hb
  refine ⟨UInt64.ofNat n.toNat, ?_⟩
  rw [e1, num, UInt64.toNat_ofNat', Nat.mod_eq_of_lt (by simp; omega)]
  congr 2
  omega
theorem cells_int {fuel : Nat} {cs : List Value} {x : DataW H × List MemPlace} (h : DataW.trod enc Try.prog w base sp held fuel 3 cs = some x) : ∃ n : Int, cs = [.int .i64 n] := by
  obtain ⟨n, e1, _, _⟩ := DataW.trod_int Try.underlying3 h
  exact ⟨n, e1⟩
theorem take_all {l : List Value} {n : Nat} (h : l.length = n) : l.take n = l := List.take_of_length_le (by omega)
theorem seg_join (l : List Value) (o n : Nat) : (l.drop o).take n ++ l.drop (o + n) = l.drop o := by
  rw [← List.drop_drop]; exact List.take_append_drop n _
theorem cellsOf_root : Try.prog.cellsOf 23 = 32 := by kernel_rfl
theorem cellsOf_num : Try.prog.cellsOf 24 = 1 := by kernel_rfl
theorem cellsOf_int : Try.prog.cellsOf 3 = 1 := by kernel_rfl
theorem cellsOf_check : Try.prog.cellsOf 28 = 33 := by kernel_rfl
theorem cellsOf_block : Try.prog.cellsOf 26 = 66 := by kernel_rfl
theorem cellsOf_att : Try.prog.cellsOf 30 = 100 := by kernel_rfl
theorem cells_check {fuel : Nat} {cs : List Value} {x : DataW H × List MemPlace} (hl : cs.length = 33) (h : DataW.trod enc Try.prog w base sp held fuel 28 cs = some x) : ∃ c : Ck, cs = (cc c).toList := by
  obtain ⟨_, _, h0⟩ := trod_field (i := 0) underC fldsC rfl h
  obtain ⟨_, _, h1⟩ := trod_field (i := 1) underC fldsC rfl h
  obtain ⟨e, he⟩ := cells_num h0
  obtain ⟨r, hr⟩ := cells_root h1
  rw [cellsOf_num] at he
  rw [cellsOf_root] at hr
  refine ⟨⟨e, r⟩, ?_⟩
  have j := seg_join cs 0 1
  rw [he, List.drop_zero, Nat.zero_add] at j
  rw [take_all (by rw [List.length_drop]; omega)] at hr
  rw [hr] at j
  rw [cc_list, ← j]
  rfl
theorem cells_block {fuel : Nat} {cs : List Value} {x : DataW H × List MemPlace} (hl : cs.length = 66) (h : DataW.trod enc Try.prog w base sp held fuel 26 cs = some x) : ∃ b : Blk, cs = (bc b).toList := by
  obtain ⟨_, _, h0⟩ := trod_field (i := 0) underB fldsB rfl h
  obtain ⟨_, _, h1⟩ := trod_field (i := 1) underB fldsB rfl h
  obtain ⟨_, _, h2⟩ := trod_field (i := 2) underB fldsB rfl h
  obtain ⟨_, _, h3⟩ := trod_field (i := 3) underB fldsB rfl h
  obtain ⟨r, hr⟩ := cells_root h0
  obtain ⟨p, hp⟩ := cells_root h1
  obtain ⟨s, hs⟩ := cells_num h2
  obtain ⟨j, hj⟩ := cells_num h3
  rw [cellsOf_root] at hr hp
  rw [cellsOf_num] at hs hj
  refine ⟨⟨r, p, s, j⟩, ?_⟩
  have j0 := seg_join cs 0 32
  have j1 := seg_join cs 32 32
  have j2 := seg_join cs 64 1
  rw [hr, List.drop_zero, Nat.zero_add] at j0
  rw [hp] at j1
  rw [hs] at j2
  rw [take_all (by rw [List.length_drop]; omega)] at hj
  rw [bc_list, ← j0, ← j1, ← j2, hj]
  rfl
theorem cells_att {fuel : Nat} {cs : List Value} {x : DataW H × List MemPlace} (hl : cs.length = 100) (h : DataW.trod enc Try.prog w base sp held fuel 30 cs = some x) : ∃ a : At, cs = (ac a).toList := by
  obtain ⟨_, _, h0⟩ := trod_field (i := 0) underA fldsA rfl h
  obtain ⟨_, _, h1⟩ := trod_field (i := 1) underA fldsA rfl h
  obtain ⟨_, _, h2⟩ := trod_field (i := 2) underA fldsA rfl h
  obtain ⟨_, _, h3⟩ := trod_field (i := 3) underA fldsA rfl h
  obtain ⟨_, _, h4⟩ := trod_field (i := 4) underA fldsA rfl h
  obtain ⟨v, hv⟩ := cells_int h0
  obtain ⟨s, hs⟩ := cells_num h1
  obtain ⟨r, hr⟩ := cells_root h2
  rw [cellsOf_int] at hv
  rw [cellsOf_num] at hs
  rw [cellsOf_root] at hr
  rw [cellsOf_check] at h3 h4
  obtain ⟨so, hso⟩ := cells_check (by rw [List.length_take, List.length_drop]; omega) h3
  obtain ⟨ta, hta⟩ := cells_check (by rw [List.length_take, List.length_drop]; omega) h4
  refine ⟨⟨v, s, r, so, ta⟩, ?_⟩
  have j0 := seg_join cs 0 1
  have j1 := seg_join cs 1 1
  have j2 := seg_join cs 2 32
  have j3 := seg_join cs 34 33
  rw [hv, List.drop_zero, Nat.zero_add] at j0
  rw [hs] at j1
  rw [hr] at j2
  rw [hso] at j3
  rw [take_all (by rw [List.length_drop]; omega)] at hta
  rw [ac_list, ← j0, ← j1, ← j2, ← j3, hta]
  rfl
theorem open_block {r : Reach} {b0 : Nat} {v : Value} {d : DataW H} {ps : List MemPlace} (hval : Value.okWide Try.prog w r b0 26 v) (hd : DataW.Trod enc Try.prog w base sp held 26 v d ps) : ∃ b : Blk, v = .agg (bc b) := by
  obtain ⟨xs, rfl, hn⟩ := okWide_struct underB hval
  rw [cellsOf_block] at hn
  obtain ⟨fuel, hf⟩ := hd
  obtain ⟨b, hb⟩ := cells_block (cs := xs.toList) (by rw [Array.length_toList, hn]) hf
  exact ⟨b, by rw [show xs = bc b from Array.toList_inj.1 hb]⟩
theorem open_att {r : Reach} {b0 : Nat} {v : Value} {d : DataW H} {ps : List MemPlace} (hval : Value.okWide Try.prog w r b0 30 v) (hd : DataW.Trod enc Try.prog w base sp held 30 v d ps) : ∃ a : At, v = .agg (ac a) := by
  obtain ⟨xs, rfl, hn⟩ := okWide_struct underA hval
  rw [cellsOf_att] at hn
  obtain ⟨fuel, hf⟩ := hd
  obtain ⟨a, ha⟩ := cells_att (cs := xs.toList) (by rw [Array.length_toList, hn]) hf
  exact ⟨a, by rw [show xs = ac a from Array.toList_inj.1 ha]⟩
end
end Go.Proofs.Ytjdpndclgmdahaa
