/-
  api.Note: its plain data, its cells, loads, stores, literals, ==, its parts in memory, an argument; in any translation that has it. (written by wip/mkstruct.py)
-/
import Derived.Test.YtiljgnhnpoackaaPr
import Derived.Test.YtiljgnhnpoackaaCk
namespace Go.Proofs.Ytiljgnhnpoackaa
open Go.RowKit

structure Nt where
  ver : Int
  head : Rt
  fin : Ck
theorem Nt.ext {x y : Nt} (h0 : x.ver = y.ver) (h1 : x.head = y.head) (h2 : x.fin = y.fin) : x = y := by cases x; cases y; simp_all
instance : DecidableEq Nt := fun x y => decidable_of_iff (x.ver = y.ver ∧ x.head = y.head ∧ x.fin = y.fin) ⟨fun h => Nt.ext h.1 h.2.1 h.2.2, fun h => by subst h; exact ⟨rfl, rfl, rfl⟩⟩
def ntL (x : Nt) : List Value := [.int .i64 x.ver] ++ ((rc x.head).toList ++ ((cc x.fin).toList))
def nt (x : Nt) : Array Value := (ntL x).toArray
theorem nt_list (x : Nt) : (nt x).toList = ntL x := rfl
theorem nt_len (x : Nt) : (ntL x).length = 66 := by simp [ntL, rc_size, cc_size]
theorem nt_size (x : Nt) : (nt x).size = 66 := by rw [← Array.length_toList, nt_list, nt_len]
theorem nt_one (x : Nt) : ∀ v ∈ ntL x, v.oneCell' = true := by
  intro v hv
  unfold ntL at hv
  simp only [List.mem_append, List.mem_singleton] at hv
  rcases hv with rfl | hv | hv
  · rfl
  · exact rc_ones _ v hv
  · exact cc_one _ v (by rw [cc_list] at hv; exact hv)
@[go_sem] theorem okA_nt (x : Nt) : okA 66 (.agg (nt x)) = true := by
  show ((nt x).size == 66 && (nt x).all (·.oneCell')) = true
  rw [show (nt x).all (·.oneCell') = true from all_one (nt_one x), nt_size]; rfl
def znt : Nt := ⟨0, zr, zcc⟩
theorem zero_nt (w : World) : (zeroValue 31).run Try.prog w = .ok (.agg (nt znt)) w := by kernel_rfl
@[go_sem ↓] theorem load_nt (ρ : Operand → Value) (dst : Option Tmp) (x : Operand) (ty : TypeId) (pos : String) (after : Array Edge) (guard : Option (Nat × Bool)) (w : World) :
    (execOp ρ { dst, op := .load 31 x, type := ty, pos, after, guard }).run Try.prog w = ldOut (ldA w (ρ x) 66) w (opRest Try.prog ρ { dst, op := .load 31 x, type := ty, pos, after, guard } w) :=
  run_load_out Try.isAgg31 Try.sizeOf31 ρ dst x ty pos after guard w
@[go_sem ↓] theorem store_nt (ρ : Operand → Value) (dst : Option Tmp) (x y : Operand) (ty : TypeId) (pos : String) (after : Array Edge) (guard : Option (Nat × Bool)) (w : World) :
    (execOp ρ { dst, op := .store 31 x y, type := ty, pos, after, guard }).run Try.prog w = stOut (wrA w (ρ x) 66 && okA 66 (ρ y)) (stA w (ρ x) (ρ y)) (opRest Try.prog ρ { dst, op := .store 31 x y, type := ty, pos, after, guard } w) :=
  run_store_out Try.sizeOf31 ρ dst x y ty pos after guard w
@[go_sem ↓] theorem alloc_nt (ρ : Operand → Value) (dst : Option Tmp) (ty : TypeId) (pos : String) (after : Array Edge) (guard : Option (Nat × Bool)) (w : World) :
    (execOp ρ { dst, op := .alloc 31, type := ty, pos, after, guard }).run Try.prog w = .ok (.value (.pointer (some ⟨w.heap.size, 0, none⟩))) (w.alloc (.cells (nt znt) 31)) := by
  unfold execOp
  simp only [Instr.alloc, Sem.run_bind, zero_nt, Result.andThen_ok]
  rfl
def places_nt : List (Nat × Nat) := [(0, 1), (1, 32), (33, 33)]
theorem fields_nt : ∀ w : World, ((Try.prog.fieldsOf 31).mapM (m := Sem) fun f => do pure (f.offset, ← Go.sizeOf f.type)).run Try.prog w = .ok places_nt.toArray w := fun _ => by kernel_rfl
theorem under_nt : Try.prog.underlying 31 = some (.struct (Try.prog.fieldsOf 31)) := by kernel_rfl
theorem flds_nt : (Try.prog.fieldsOf 31).toList.map (fun f => (f.name, f.type, f.offset)) = [("Ver", 3, 0), ("Head", 26, 1), ("Fin", 29, 33)] := by kernel_rfl
@[go_sem ↓] theorem build_nt (ρ : Operand → Value) (dst : Option Tmp) (p : Nat × Operand) (ps : List (Nat × Operand)) (ty : TypeId) (pos : String) (after : Array Edge) (guard : Option (Nat × Bool)) (w : World) :
    (execOp ρ { dst, op := .build 31 (p :: ps).toArray, type := ty, pos, after, guard }).run Try.prog w = vOutE ((fillA places_nt (nt znt) ((p.1, ρ p.2) :: ps.map fun p => (p.1, ρ p.2))).map .agg) w (opRest Try.prog ρ { dst, op := .build 31 (p :: ps).toArray, type := ty, pos, after, guard } w) :=
  build_out zero_nt under_nt fields_nt ρ dst (p :: ps).toArray ty pos after guard w
@[go_sem ↓] theorem build0_nt (ρ : Operand → Value) (dst : Option Tmp) (ty : TypeId) (pos : String) (after : Array Edge) (guard : Option (Nat × Bool)) (w : World) :
    (execOp ρ { dst, op := .build 31 #[], type := ty, pos, after, guard }).run Try.prog w = .ok (.value (.agg (nt znt))) w :=
  build_out zero_nt under_nt fields_nt ρ dst #[] ty pos after guard w
attribute [go_sem] places_nt nt_size
theorem nt_at_ver (x : Nt) : ntL x = ([]) ++ ([.int .i64 x.ver] ++ ((rc x.head).toList ++ ((cc x.fin).toList))) ∧ ([] : List Value).length = 0 := by
  constructor
  · unfold ntL; simp
  · rfl
theorem nt_get_ver (x : Nt) : (nt x)[0]? = some (.int .i64 x.ver) := get_at (nt_at_ver x).1 (nt_at_ver x).2
@[go_sem] theorem nt_gi_ver (x : Nt) (h : 0 < (nt x).size) : (nt x)[0]'h = .int .i64 x.ver := by have := nt_get_ver x; rw [Array.getElem?_eq_getElem h] at this; exact Option.some.inj this
theorem nt_rd_ver {w : World} {b off : Nat} {x : Nt} (h : w.rangeAt b off (ntL x)) : w.cell? ⟨b, off + 0, none⟩ = some (.int .i64 x.ver) := range_one h (nt_at_ver x).1 (nt_at_ver x).2
theorem nt_rd0_ver {w : World} {g : Nat} {t : TypeId} {fr : Nat × Nat} {x : Nt} (h : w.heap[g]? = some (.cells (nt x) t fr)) : w.cell? ⟨g, 0, none⟩ = some (.int .i64 x.ver) := by have := nt_rd_ver (x := x) (range_block h); rwa [Nat.zero_add] at this
theorem nt_put_ver (x : Nt) (y : Int) : putSeg (nt x) 0 #[.int .i64 y] = nt { x with ver := y } := by
  rw [putSeg_mid (c := nt x) (r := #[.int .i64 y]) (nt_at_ver x).1 (nt_at_ver x).2 rfl]
  simp [nt, ntL]
theorem nt_at_head (x : Nt) : ntL x = ([.int .i64 x.ver]) ++ ((rc x.head).toList ++ ((cc x.fin).toList)) ∧ ([.int .i64 x.ver] : List Value).length = 1 := by
  constructor
  · unfold ntL; simp
  · simp
theorem nt_get_head (x : Nt) : (nt x).extract 1 (1 + 32) = rc x.head := extract_mid (nt_at_head x).1 (nt_at_head x).2 (rc_size _)
theorem nt_rd_head {w : World} {b off : Nat} {x : Nt} (h : w.rangeAt b off (ntL x)) : ldA w (.pointer (some ⟨b, off + 1, none⟩)) 32 = some (rc x.head) := range_ldA h (nt_at_head x).1 (nt_at_head x).2 (rc_size _)
theorem nt_rd0_head {w : World} {g : Nat} {t : TypeId} {fr : Nat × Nat} {x : Nt} (h : w.heap[g]? = some (.cells (nt x) t fr)) : ldA w (.pointer (some ⟨g, 1, none⟩)) 32 = some (rc x.head) := by have := nt_rd_head (x := x) (range_block h); rwa [Nat.zero_add] at this
@[go_sem] theorem nt_lda_head (w : World) (t : TypeId) (b : Nat) (x : Nt) (hb : b = w.heap.size) : ldA (w.alloc (.cells (nt x) t)) (.pointer (some ⟨b, 1, none⟩)) 32 = some (rc x.head) := by subst hb; exact nt_rd0_head (heap_alloc_last w _)
theorem nt_put_head (x : Nt) (y : Rt) : putSeg (nt x) 1 (rc y) = nt { x with head := y } := by
  rw [putSeg_mid (c := nt x) (nt_at_head x).1 (nt_at_head x).2 (by simp [rc_size])]
  simp [nt, ntL]
theorem nt_at_fin (x : Nt) : ntL x = ([.int .i64 x.ver] ++ (rc x.head).toList) ++ ((cc x.fin).toList ++ ([])) ∧ ([.int .i64 x.ver] ++ (rc x.head).toList : List Value).length = 33 := by
  constructor
  · unfold ntL; simp
  · simp [rc_size]
theorem nt_get_fin (x : Nt) : (nt x).extract 33 (33 + 33) = cc x.fin := extract_mid (nt_at_fin x).1 (nt_at_fin x).2 (cc_size _)
theorem nt_rd_fin {w : World} {b off : Nat} {x : Nt} (h : w.rangeAt b off (ntL x)) : ldA w (.pointer (some ⟨b, off + 33, none⟩)) 33 = some (cc x.fin) := range_ldA h (nt_at_fin x).1 (nt_at_fin x).2 (cc_size _)
theorem nt_rd0_fin {w : World} {g : Nat} {t : TypeId} {fr : Nat × Nat} {x : Nt} (h : w.heap[g]? = some (.cells (nt x) t fr)) : ldA w (.pointer (some ⟨g, 33, none⟩)) 33 = some (cc x.fin) := by have := nt_rd_fin (x := x) (range_block h); rwa [Nat.zero_add] at this
@[go_sem] theorem nt_lda_fin (w : World) (t : TypeId) (b : Nat) (x : Nt) (hb : b = w.heap.size) : ldA (w.alloc (.cells (nt x) t)) (.pointer (some ⟨b, 33, none⟩)) 33 = some (cc x.fin) := by subst hb; exact nt_rd0_fin (heap_alloc_last w _)
theorem nt_put_fin (x : Nt) (y : Ck) : putSeg (nt x) 33 (cc y) = nt { x with fin := y } := by
  rw [putSeg_mid (c := nt x) (nt_at_fin x).1 (nt_at_fin x).2 (by simp [cc_size])]
  simp [nt, ntL]
theorem nt_rg_fin {w : World} {b off : Nat} {x : Nt} (h : w.rangeAt b off (ntL x)) : w.rangeAt b (off + 33) (ccL x.fin) := by
  rw [← cc_list]; exact range_part h (nt_at_fin x).1 (nt_at_fin x).2
theorem nt_in_fin (x : Nt) (o : Nat) (r : Array Value) (h : o + r.size ≤ 33) : putSeg (nt x) (33 + o) r = putSeg (nt x) 33 (putSeg (cc x.fin) o r) := putSeg_in (c := nt x) (nt_at_fin x).1 (nt_at_fin x).2 (by rw [cc_size]; exact h)
theorem nt_rd_fin_epoch {w : World} {b off : Nat} {x : Nt} (h : w.rangeAt b off (ntL x)) : w.cell? ⟨b, off + 33, none⟩ = some (num x.fin.epoch) := cc_rd_epoch (nt_rg_fin h)
theorem nt_rd0_fin_epoch {w : World} {g : Nat} {t : TypeId} {fr : Nat × Nat} {x : Nt} (h : w.heap[g]? = some (.cells (nt x) t fr)) : w.cell? ⟨g, 33, none⟩ = some (num x.fin.epoch) := by have := nt_rd_fin_epoch (x := x) (range_block h); rwa [Nat.zero_add] at this
theorem nt_get_fin_epoch (x : Nt) : (nt x)[33]? = some (num x.fin.epoch) := by have := nt_rd_fin_epoch (x := x) (range_block (heap_alloc_last (default : World) (.cells (nt x) 0))); rw [cell_of_row _ _ _ _ _ _ (heap_alloc_last _ _), Nat.zero_add] at this; exact this
@[go_sem] theorem nt_gi_fin_epoch (x : Nt) (h : 33 < (nt x).size) : (nt x)[33]'h = num x.fin.epoch := by have := nt_get_fin_epoch x; rw [Array.getElem?_eq_getElem h] at this; exact Option.some.inj this
theorem nt_put_fin_epoch (x : Nt) (y : UInt64) : putSeg (nt x) 33 #[num y] = nt { x with fin := { x.fin with epoch := y } } := by
  rw [show 33 = 33 + 0 from rfl, nt_in_fin x 0 _ (by simp), cc_put_epoch, nt_put_fin]
attribute [go_sem] nt_put_fin_epoch
@[go_sem] theorem nt_set_fin_epoch (x : Nt) (y : UInt64) : (nt x).setIfInBounds 33 (num y) = nt { x with fin := { x.fin with epoch := y } } := by
  rw [setIfInBounds_seg (by rw [nt_size]; decide)]; exact nt_put_fin_epoch x y
@[go_sem] theorem nt_setn_fin_epoch (x : Nt) (y : UInt64) : (nt x).setIfInBounds 33 (.int .u64 (y.toNat : Int)) = nt { x with fin := { x.fin with epoch := y } } := by
  rw [setIfInBounds_seg (by rw [nt_size]; decide)]; exact nt_put_fin_epoch x y
theorem nt_rd_fin_root {w : World} {b off : Nat} {x : Nt} (h : w.rangeAt b off (ntL x)) : ldA w (.pointer (some ⟨b, off + 34, none⟩)) 32 = some (rc x.fin.root) := cc_rd_root (nt_rg_fin h)
theorem nt_rd0_fin_root {w : World} {g : Nat} {t : TypeId} {fr : Nat × Nat} {x : Nt} (h : w.heap[g]? = some (.cells (nt x) t fr)) : ldA w (.pointer (some ⟨g, 34, none⟩)) 32 = some (rc x.fin.root) := by have := nt_rd_fin_root (x := x) (range_block h); rwa [Nat.zero_add] at this
@[go_sem] theorem nt_lda_fin_root (w : World) (t : TypeId) (b : Nat) (x : Nt) (hb : b = w.heap.size) : ldA (w.alloc (.cells (nt x) t)) (.pointer (some ⟨b, 34, none⟩)) 32 = some (rc x.fin.root) := by subst hb; exact nt_rd0_fin_root (heap_alloc_last w _)
theorem nt_put_fin_root (x : Nt) (y : Rt) : putSeg (nt x) 34 (rc y) = nt { x with fin := { x.fin with root := y } } := by
  rw [show 34 = 33 + 1 from rfl, nt_in_fin x 1 _ (by rw [rc_size]; decide), cc_put_root, nt_put_fin]
attribute [go_sem] nt_put_fin_root
@[go_sem] theorem nt_set_ver (x : Nt) (y : Int) : (nt x).setIfInBounds 0 (.int .i64 y) = nt { x with ver := y } := by
  rw [setIfInBounds_seg (by rw [nt_size]; decide)]; exact nt_put_ver x y
attribute [go_sem] nt_put_ver nt_put_head nt_put_fin
theorem part_nt (c : Array Value) (o : Nat) (r : Nt) (h : c.extract o (o + 66) = nt r) (w : World) : (part 31 c o).run Try.prog w = .ok (.agg (nt r)) w := by
  rw [part_agg (P := Try.prog) Try.isAgg31 Try.sizeOf31, h]
theorem eq_ntN (d : Nat) (x y : Nt) (w : World) : (Op.equalIn (d + 4) 31 (.agg (nt x)) (.agg (nt y))).run Try.prog w = .ok (decide (x = y)) w := by
  rw [show d + 4 = (d + 3) + 1 from rfl, run_equalIn_struct w (d + 3) _ _ _ under_nt (by kernel_rfl)]
  rw [eqF_cons flds_nt (by decide) (partI _ _ _ (nt_get_ver x) w) (partI _ _ _ (nt_get_ver y) w) (eqInt (d + 2) _ _ w)
    (fun _ h1 => eqF_cons h1 (by decide) (partR _ _ _ (nt_get_head x) w) (partR _ _ _ (nt_get_head y) w) (eqRtN (d + 1) _ _ w)
    (fun _ h2 => eqF_cons h2 (by decide) (part_cc _ _ _ (nt_get_fin x) w) (part_cc _ _ _ (nt_get_fin y) w) (eq_ccN (d + 0) _ _ w)
    (fun _ hn => eqF_nil hn)))]
  congr 1
  rw [Bool.eq_iff_iff]
  simp only [Bool.and_eq_true, decide_eq_true_iff, and_true]
  exact ⟨fun h => Nt.ext h.1 h.2.1 h.2.2, fun h => by subst h; exact ⟨rfl, rfl, rfl⟩⟩
@[go_sem ↓] theorem eq_nt (x y : Nt) (w : World) : (Op.equalIn 10000 31 (.agg (nt x)) (.agg (nt y))).run Try.prog w = .ok (decide (x = y)) w := eq_ntN 9996 x y w
theorem cellsOf_nt : Try.prog.cellsOf 31 = 66 := by kernel_rfl
section
open Go.WideShapes Go.ChangeShapes
variable {H : Type} {enc : TypeId × Value → H} {w : World} {base : Nat} {sp : Nat → Bool} {held : Bool}
theorem cells_nt {fuel : Nat} {cs : List Value} {x : DataW H × List MemPlace} (hl : cs.length = 66) (h : DataW.trod enc Try.prog w base sp held fuel 31 cs = some x) : ∃ a : Nt, cs = ntL a := by
  obtain ⟨_, _, h0⟩ := trod_field (i := 0) under_nt flds_nt rfl h
  rw [cellsOf_int] at h0
  obtain ⟨a0, e0⟩ := cells_int h0
  obtain ⟨_, _, h1⟩ := trod_field (i := 1) under_nt flds_nt rfl h
  rw [cellsOf_root] at h1
  obtain ⟨a1, e1⟩ := cells_root h1
  obtain ⟨_, _, h2⟩ := trod_field (i := 2) under_nt flds_nt rfl h
  rw [cellsOf_cc] at h2
  obtain ⟨a2, e2⟩ := cells_cc (by rw [List.length_take, List.length_drop]; omega) h2
  rw [← cc_list] at e2
  refine ⟨⟨a0, a1, a2⟩, ?_⟩
  unfold ntL
  have j0 := seg_join cs 0 1
  rw [e0] at j0
  have j1 := seg_join cs 1 32
  rw [e1] at j1
  have j2 := seg_join cs 33 33
  rw [e2] at j2
  have jl : cs.drop 66 = [] := List.drop_of_length_le (by omega)
  rw [show (33 + 33) = 66 from rfl, jl, List.append_nil] at j2
  rw [← List.drop_zero (l := cs)]
  rw [← j0]
  rw [show cs.drop (0 + 1) = cs.drop 1 from rfl, ← j1]
  rw [show cs.drop (1 + 32) = cs.drop 33 from rfl, ← j2]
  try rfl
theorem open_nt {r : Reach} {b0 : Nat} {v : Value} {d : DataW H} {ps : List MemPlace} (hval : Value.okWide Try.prog w r b0 31 v) (hd : DataW.Trod enc Try.prog w base sp held 31 v d ps) : ∃ a : Nt, v = .agg (nt a) := by
  obtain ⟨xs, rfl, hn⟩ := okWide_struct under_nt hval
  rw [cellsOf_nt] at hn
  obtain ⟨fuel, hf⟩ := hd
  obtain ⟨a, ha⟩ := cells_nt (cs := xs.toList) (by rw [Array.length_toList, hn]) hf
  exact ⟨a, by rw [show xs = nt a from Array.toList_inj.1 ha]⟩
end
def Ent : Lie Nt := ⟨31, 66, ntL, by decide, nt_len, nt_one⟩
attribute [irreducible] nt
end Go.Proofs.Ytiljgnhnpoackaa
