/-
  []api.Link: append, s[n:], an argument; in any translation that has it. (written by wip/mkslice.py)
  Links in memory.
  Checkpoints in memory: a row of them, and one of it. (written by wip/gen/ref16.py)
-/
import Derived.Test.YtlhnjaeocoafnaaQ13
import Derived.Test.YtlhnjaeocoafnaaQ12
import Derived.Test.YtlhnjaeocoafnaaQ11
import Derived.Laws.Bits64b
namespace Go.Proofs.Ytlhnjaeocoafnaa
open Go.RowKit
set_option maxRecDepth 100000
theorem info_lk : (Try.prog.info? 63).map (fun i => (i.zero, i.size, i.bytes)) = some (some (.agg (lk zlk)), 67, 88) := by kernel_rfl
theorem Klk : Known Try.prog Elk 25 := ⟨Try.underlying25, .agg (lk zlk), 88, info_lk, by show ((lk zlk)).size = _; exact lk_size _, by decide⟩
@[go_sem ↓] theorem slice_from_lk (ρ : Operand → Value) (dst : Option Tmp) (x lo : Operand) (ty : TypeId) (pos : String) (after : Array Edge) (guard : Option (Nat × Bool)) (w : World) :
    (execOp ρ { dst, op := .slice 25 x (some lo) none none, type := ty, pos, after, guard }).run Try.prog w = vOutE (cutFE 67 (ρ x) (ρ lo)) w (opRest Try.prog ρ { dst, op := .slice 25 x (some lo) none none, type := ty, pos, after, guard } w) :=
  slice_from_E Try.underlying25 Try.sizeOf63 ρ dst x lo ty pos after guard w
@[go_sem ↓] theorem buildSlice_lk (ρ : Operand → Value) (dst : Option Tmp) (x : Operand) (ty : TypeId) (pos : String) (after : Array Edge) (guard : Option (Nat × Bool)) (w : World) (hx : okA 67 (ρ x) = true) :
    (execOp ρ { dst, op := .buildSlice 25 1 #[(0, x)], type := ty, pos, after, guard }).run Try.prog w = .ok (.value (.slice (some ⟨w.heap.size, 0, none⟩) 1 1)) (w.alloc (.cells (cellsA (ρ x)) 63)) := by
  obtain ⟨c, hc, hn⟩ : ∃ c, ρ x = .agg c ∧ c.size = 67 := by
    unfold okA at hx
    split at hx
    · rename_i c hc
      rw [Bool.and_eq_true, beq_iff_eq] at hx
      exact ⟨c, hc, hx.1⟩
    · cases hx
  have hp : (1 * 67 > 2 ^ 24) = False := by simp
  have h0 : (1 * 67 = 0) = False := by simp
  unfold execOp
  simp only [Instr.buildSlice, Sem.run_bind, run_underlying Try.underlying25, Result.andThen_ok, Try.sizeOf63, hp, h0, if_false, zero_lk, Value.cells]
  simp only [List.map_toArray, List.map_cons, List.map_nil, hc, Instr.fill, Value.cells, hn, Nat.zero_mul]
  simp [cellsA]
  rw [foldl_zip _ c (by simp [hn])]
  rfl
section
open Go.WideShapes Go.ChangeShapes
variable {H : Type} {enc : TypeId × Value → H} {w : World} {base : Nat} {sp : Nat → Bool} {held : Bool}
set_option maxRecDepth 100000 in
/-- A slice's one cell. -/
theorem cell_lks {fuel : Nat} {v : Value} {x : DataW H × List MemPlace} (h : DataW.trod enc Try.prog w base sp held fuel 25 [v] = some x) : ∃ l : List Lk, SlE Elk w v l :=
  cells_E Try.underlying25 cellsOf_lk (fun _ cs _ h => cells_lk (by obtain ⟨_, _, _, _, hl, _⟩ := DataW.trod_struct under_lk h; rw [hl, cellsOf_lk]) h) h
set_option maxRecDepth 100000 in
theorem cells_lks {fuel : Nat} {cs : List Value} {x : DataW H × List MemPlace} (h : DataW.trod enc Try.prog w base sp held fuel 25 cs = some x) : ∃ s : SlV, cs = [sv s] ∧ ∃ l : List Lk, SlE Elk w (sv s) l := by
  rcases Deep.open_slice Try.underlying25 h with ⟨h1, _⟩ | ⟨a', len', cap', _, _, _, _, h1, _⟩
  · subst h1
    exact ⟨⟨none, 0, 0⟩, rfl, [], slE_nil _ _ _ _⟩
  · subst h1
    exact ⟨⟨some a', len', cap'⟩, rfl, cell_lks h⟩
set_option maxRecDepth 100000 in
theorem open_lks {r : Reach} {b0 : Nat} {v : Value} {d : DataW H} {ps : List MemPlace} (hval : Value.okWide Try.prog w r b0 25 v) (hd : DataW.Trod enc Try.prog w base sp held 25 v d ps) : ∃ l : List Lk, SlE Elk w v l := by
  obtain ⟨a, len, cap, rfl⟩ := okWide_slice Try.underlying25 hval
  obtain ⟨fuel, hf⟩ := hd
  exact cell_lks hf
end
end Go.Proofs.Ytlhnjaeocoafnaa
namespace Go.Proofs.Ytlhnjaeocoafnaa
open Go.RowKit
set_option maxRecDepth 100000

theorem k_and (a b : UInt64) : bits .and .u64 (a.toNat : Int) (b.toNat : Int) = ((a &&& b).toNat : Int) := by
  rw [bits_and_u64_nat a.toNat b.toNat a.toNat_lt b.toNat_lt, UInt64.toNat_and]
theorem k_or (a b : UInt64) : bits .or .u64 (a.toNat : Int) (b.toNat : Int) = ((a ||| b).toNat : Int) := by
  rw [bits_or_u64_nat a.toNat b.toNat a.toNat_lt b.toNat_lt, UInt64.toNat_or]
theorem lks_ptr {w : World} {p : Option Addr} {n cp : Nat} {l : List Lk} (h : SlE Elk w (.slice p n cp) l) (h0 : 0 < l.length) : ∃ b o, p = some ⟨b, o, none⟩ ∧ b < w.heap.size ∧ w.rangeAt b o (cellsE Elk l) := by
  obtain ⟨b, o, c, e, _, q, x⟩ := slE_ne h h0
  injection e with e1 e2 e3
  exact ⟨b, o, e1, q, x⟩
section
variable {w : World} {b off : Nat} {l : List Lk} {i : Nat}
theorem lks_rg (h : w.rangeAt b off (cellsE Elk l)) (hi : i < l.length) : w.rangeAt b (off + i * 67) (lkL (lkAt l i)) := by
  rw [lkAt_in hi]; exact range_at h hi
theorem lks_ld (h : w.rangeAt b off (cellsE Elk l)) (hi : i < l.length) : ldA w (.pointer (some ⟨b, off + i * 67, none⟩)) 67 = some (lk (lkAt l i)) := by
  have := ldA_at h hi
  rw [lkAt_in hi]
  exact this.trans (by rw [show (Elk.enc l[i]).toArray = lk l[i] from Array.toList_inj.1 (by rw [lk_list]; rfl)])
theorem lks_s (h : w.rangeAt b off (cellsE Elk l)) (hi : i < l.length) : ldA w (.pointer (some ⟨b, off + i * 67, none⟩)) 33 = some (cc (lkAt l i).s) := lk_rd_s (lks_rg h hi)
theorem lks_t (h : w.rangeAt b off (cellsE Elk l)) (hi : i < l.length) : ldA w (.pointer (some ⟨b, off + i * 67 + 33, none⟩)) 33 = some (cc (lkAt l i).t) := lk_rd_t (lks_rg h hi)
theorem lks_mask (h : w.rangeAt b off (cellsE Elk l)) (hi : i < l.length) : w.cell? ⟨b, off + i * 67 + 66, none⟩ = some (.int .u64 ((lkAt l i).mask.toNat : Int)) := lk_rd_mask (lks_rg h hi)
theorem lks_se (h : w.rangeAt b off (cellsE Elk l)) (hi : i < l.length) : w.cell? ⟨b, off + i * 67, none⟩ = some (.int .u64 ((lkAt l i).s.epoch.toNat : Int)) := lk_rd_s_epoch (lks_rg h hi)
theorem lks_te (h : w.rangeAt b off (cellsE Elk l)) (hi : i < l.length) : w.cell? ⟨b, off + i * 67 + 33, none⟩ = some (.int .u64 ((lkAt l i).t.epoch.toNat : Int)) := lk_rd_t_epoch (lks_rg h hi)
end
/-- A link in a variable. -/
structure LkV (W : World) (g : Nat) (x : Lk) : Prop where
  s : ldA W (.pointer (some ⟨g, 0, none⟩)) 33 = some (cc x.s)
  t : ldA W (.pointer (some ⟨g, 33, none⟩)) 33 = some (cc x.t)
  m : W.cell? ⟨g, 66, none⟩ = some (.int .u64 (x.mask.toNat : Int))
  se : W.cell? ⟨g, 0, none⟩ = some (.int .u64 (x.s.epoch.toNat : Int))
  te : W.cell? ⟨g, 33, none⟩ = some (.int .u64 (x.t.epoch.toNat : Int))
  a : ldA W (.pointer (some ⟨g, 0, none⟩)) 67 = some (lk x)
  g : g < W.heap.size
theorem lk_v {W : World} {g : Nat} {x : Lk} (h : W.heap[g]? = some (.cells (lk x) 63 (0, 0))) : LkV W g x :=
  ⟨lk_rd0_s h, lk_rd0_t h, lk_rd0_mask h, lk_rd0_s_epoch h, lk_rd0_t_epoch h, ldA_block h (lk_size x), (Array.getElem?_eq_some_iff.1 h).1⟩
/-- A checkpoint in a variable. -/
structure CkV (W : World) (g : Nat) (x : Ck) : Prop where
  a : ldA W (.pointer (some ⟨g, 0, none⟩)) 33 = some (cc x)
  e : W.cell? ⟨g, 0, none⟩ = some (.int .u64 (x.epoch.toNat : Int))
  g : g < W.heap.size
theorem ck_v {W : World} {g : Nat} {x : Ck} (h : W.heap[g]? = some (.cells (cc x) 32 (0, 0))) : CkV W g x :=
  ⟨ldA_block h (cc_size x), cc_rd0_epoch h, (Array.getElem?_eq_some_iff.1 h).1⟩
/-- The mask's cell alone is another one then. -/
theorem set_lks (l : List Lk) {i : Nat} (hi : i < l.length) (y : UInt64) : cellsE Elk (l.set i { lkAt l i with mask := y }) = (cellsE Elk l).set (i * 67 + 66) (num y) := by
  have hlen : (cellsE Elk (l.take i)).length = i * 67 := by rw [cellsE_length, List.length_take, Nat.min_eq_left (by omega)]; rfl
  rw [cellsE_set l hi, cellsE_cut l hi, List.set_append_right _ _ (by omega), hlen, Nat.add_sub_cancel_left, lkAt_in hi]
  have h1 : (Elk.enc l[i]).length = 67 := Elk.len _
  rw [List.set_append_left _ _ (by rw [h1]; decide)]
  congr 2
  show lkL { l[i] with mask := y } = (lkL l[i]).set 66 (num y)
  unfold lkL
  rw [List.set_append_right _ _ (by rw [Array.length_toList, cc_size]; decide), List.set_append_right _ _ (by rw [Array.length_toList, Array.length_toList, cc_size, cc_size]; decide), Array.length_toList, Array.length_toList, cc_size, cc_size]
  rfl
theorem ownK_put {w : World} {base g n cap : Nat} {l : List Lk} (h : OwnE Elk w base (.slice (some ⟨g, 0, none⟩) n cap) l) (hn : l.length = n) {i : Nat} (hi : i < n) (y : UInt64) : OwnE Elk (w.setCell ⟨g, i * 67 + 66, none⟩ (.int .u64 (y.toNat : Int))) base (.slice (some ⟨g, 0, none⟩) n cap) (l.set i { lkAt l i with mask := y }) := by
  subst hn
  unfold OwnE at h ⊢
  rw [set_lks l hi, List.length_set]
  exact (World.ownsRow.stored h (i * 67 + 66) (.int .u64 (y.toNat : Int))).1
theorem ownK_frozen {w : World} {base g n cap : Nat} {l : List Lk} (h : OwnE Elk w base (.slice (some ⟨g, 0, none⟩) n cap) l) (hn : l.length = n) (k : Nat) : w.frozen? ⟨g, k, none⟩ = false := by
  subst hn; exact World.ownsRow.frozenAt h k
theorem ownK_form {w : World} {base : Nat} {v : Value} {l : List Lk} {n : Nat} (h : OwnE Elk w base v l) (hn : l.length = n) (h0 : 0 < n) : ∃ g cap, v = .slice (some ⟨g, 0, none⟩) n cap ∧ base ≤ g := by
  subst hn
  rcases h.2 with ⟨_, e⟩ | ⟨g, cap, cur, e, hb, _⟩
  · have := cellsE_length Elk l
    have h67 : Elk.n = 67 := rfl
    rw [h67] at this
    first | omega | (simp at e; omega)
  · exact ⟨g, cap, e, hb⟩
theorem ownK_rg {w : World} {base g n cap : Nat} {l : List Lk} (h : OwnE Elk w base (.slice (some ⟨g, 0, none⟩) n cap) l) (hn : l.length = n) (h0 : 0 < n) : w.rangeAt g 0 (cellsE Elk l) := by
  obtain ⟨b1, o1, e, _, x⟩ := lks_ptr (ownE_slE h) (by omega)
  injection e with e
  injection e with e1 e2
  subst e1 e2
  exact x
/-- What a function of links answers. -/
def LksEr (l : List Lk) (n : Nat) (w : World) (e : Ending) (w' : World) : Prop := ∃ v : Value, e = .returned (.tuple #[v, .int .i64 (n : Int)]) ∧ SlE Elk w' v l ∧ Below w.heap.size w w'
theorem lk_lit1 (w : World) (x : Lk) (b : Nat) (hb : b = w.heap.size) : SlE Elk (w.alloc (.cells (lk x) 63)) (.slice (some ⟨b, 0, none⟩) 1 1) [x] :=
  slE_lit w _ 1 _ _ b rfl hb (by simp [cellsE, Elk, lk_list])
end Go.Proofs.Ytlhnjaeocoafnaa
namespace Go.Proofs.Ytlhnjaeocoafnaa
open Go.RowKit
set_option maxRecDepth 100000

theorem ckAt_in {l : List Ck} {i : Nat} (h : i < l.length) : ckAt l i = l[i] := by unfold ckAt; rw [List.getD_eq_getElem?_getD, List.getElem?_eq_getElem h]; rfl
theorem ck_extL {a b : List Ck} (hl : a.length = b.length) (h : ∀ i, i < b.length → ckAt a i = ckAt b i) : a = b := List.ext_getElem hl fun i h1 h2 => by have := h i h2; rwa [ckAt_in h1, ckAt_in h2] at this
theorem ccs_ptr {w : World} {p : Option Addr} {n cp : Nat} {l : List Ck} (h : SlE Ecc w (.slice p n cp) l) (h0 : 0 < l.length) : ∃ b o, p = some ⟨b, o, none⟩ ∧ b < w.heap.size ∧ w.rangeAt b o (cellsE Ecc l) := by
  obtain ⟨b, o, c, e, _, q, x⟩ := slE_ne h h0
  injection e with e1 e2 e3
  exact ⟨b, o, e1, q, x⟩
section
variable {w : World} {b off : Nat} {l : List Ck} {i : Nat}
theorem ccs_rg (h : w.rangeAt b off (cellsE Ecc l)) (hi : i < l.length) : w.rangeAt b (off + i * 33) (ccL (ckAt l i)) := by
  rw [ckAt_in hi]; exact range_at h hi
theorem ccs_ld (h : w.rangeAt b off (cellsE Ecc l)) (hi : i < l.length) : ldA w (.pointer (some ⟨b, off + i * 33, none⟩)) 33 = some (cc (ckAt l i)) := by
  have := ldA_at h hi
  rw [ckAt_in hi]
  exact this.trans (by rw [show (Ecc.enc l[i]).toArray = cc l[i] from Array.toList_inj.1 (by rw [cc_list]; rfl)])
theorem ccs_e (h : w.rangeAt b off (cellsE Ecc l)) (hi : i < l.length) : w.cell? ⟨b, off + i * 33, none⟩ = some (.int .u64 ((ckAt l i).epoch.toNat : Int)) := cc_rd_epoch (ccs_rg h hi)
end
@[go_sem ↓] theorem buildSlice_cc (ρ : Operand → Value) (dst : Option Tmp) (x : Operand) (ty : TypeId) (pos : String) (after : Array Edge) (guard : Option (Nat × Bool)) (w : World) (hx : okA 33 (ρ x) = true) :
    (execOp ρ { dst, op := .buildSlice 27 1 #[(0, x)], type := ty, pos, after, guard }).run Try.prog w = .ok (.value (.slice (some ⟨w.heap.size, 0, none⟩) 1 1)) (w.alloc (.cells (cellsA (ρ x)) 32)) := by
  obtain ⟨c, hc, hn⟩ : ∃ c, ρ x = .agg c ∧ c.size = 33 := by
    unfold okA at hx
    split at hx
    · rename_i c hc
      rw [Bool.and_eq_true, beq_iff_eq] at hx
      exact ⟨c, hc, hx.1⟩
    · cases hx
  have hp : (1 * 33 > 2 ^ 24) = False := by simp
  have h0 : (1 * 33 = 0) = False := by simp
  unfold execOp
  simp only [Instr.buildSlice, Sem.run_bind, run_underlying Try.underlying27, Result.andThen_ok, Try.sizeOf32, hp, h0, if_false, zero_cc, Value.cells]
  simp only [List.map_toArray, List.map_cons, List.map_nil, hc, Instr.fill, Value.cells, hn, Nat.zero_mul]
  simp [cellsA]
  rw [foldl_zip _ c (by simp [hn])]
  rfl
theorem cc_lit1 (w : World) (x : Ck) (b : Nat) (hb : b = w.heap.size) : SlE Ecc (w.alloc (.cells (cc x) 32)) (.slice (some ⟨b, 0, none⟩) 1 1) [x] :=
  slE_lit w _ 1 _ _ b rfl hb (by simp [cellsE, Ecc, cc_list])
theorem heap_putC {w : World} {g : Nat} {c r : Ck} (hg : w.heap[g]? = some (.cells (cc c) 32 (0, 0))) : (stA w (.pointer (some ⟨g, 0, none⟩)) (.agg (cc r))).heap[g]? = some (.cells (cc r) 32 (0, 0)) := by
  rw [heap_stA_same hg (by rw [cc_size, cc_size]; omega)]
  congr 2
  apply Array.toList_inj.1
  unfold putSeg
  simp only [List.take_zero, List.nil_append, Nat.zero_add]
  rw [List.drop_of_length_le (by rw [Array.length_toList, cc_size, cc_size]; omega), List.append_nil]
end Go.Proofs.Ytlhnjaeocoafnaa
