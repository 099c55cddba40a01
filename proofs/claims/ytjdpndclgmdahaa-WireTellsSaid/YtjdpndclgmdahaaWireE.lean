/-
  Struct literals of blocks, checkpoints and attestations in a walk; package wire: Att, walked.
-/
import Derived.Test.YtjdpndclgmdahaaWireD
namespace Go.Proofs.Ytjdpndclgmdahaa
open Go.RowKit

/-- The parts of a literal laid over the zero cells. -/
def fillA (pl : List (Nat × Nat)) (c : Array Value) : List (Nat × Value) → Option (Array Value)
  | [] => some c
  | (i, v) :: rest =>
    match pl[i]? with
    | some (off, size) => if v.cells.size = size ∧ off + size ≤ c.size then fillA pl (putSeg c off v.cells) rest else none
    | none => none
theorem fill_fillA (pl : List (Nat × Nat)) : ∀ (ps : List (Nat × Value)) (c r : Array Value), fillA pl c ps = some r → Instr.fill (fun i => pl.toArray[i]?) c ps = some r
  | [], c, r, h => h
  | (i, v) :: rest, c, r, h => by
    unfold fillA at h
    cases hp : pl[i]? with
    | none => rw [hp] at h; cases h
    | some os =>
      obtain ⟨off, size⟩ := os
      rw [hp] at h
      dsimp only at h
      split at h
      · rename_i hs
        rw [fill_cons (fun i => pl.toArray[i]?) c i v rest off size (by simpa using hp) hs.1 hs.2]
        exact fill_fillA pl rest _ r h
      · cases h
section
variable {P : Program}
theorem run_build_struct {T : TypeId} {fs : Array Field} {pl : List (Nat × Nat)} {z : Array Value} (hz : ∀ w, (zeroValue T).run P w = .ok (.agg z) w) (hu : P.underlying T = some (.struct fs)) (hp : ∀ w, (fs.mapM (m := Sem) fun f => do pure (f.offset, ← Go.sizeOf f.type)).run P w = .ok pl.toArray w) (parts : Array (Nat × Value)) (w : World) (r : Array Value) (h : fillA pl z parts.toList = some r) :
    (Instr.build T parts).run P w = .ok (.agg r) w := by
  have hf := fill_fillA pl parts.toList z r h
  simp only [Instr.build, Sem.run_bind, hz, Result.andThen_ok, run_underlying hu, hp, Value.cells, hf]
  rfl
theorem build_out {T : TypeId} {fs : Array Field} {pl : List (Nat × Nat)} {z : Array Value} (hz : ∀ w, (zeroValue T).run P w = .ok (.agg z) w) (hu : P.underlying T = some (.struct fs)) (hp : ∀ w, (fs.mapM (m := Sem) fun f => do pure (f.offset, ← Go.sizeOf f.type)).run P w = .ok pl.toArray w)
    (ρ : Operand → Value) (dst : Option Tmp) (ps : Array (Nat × Operand)) (ty : TypeId) (pos : String) (after : Array Edge) (guard : Option (Nat × Bool)) (w : World) :
    (execOp ρ { dst, op := .build T ps, type := ty, pos, after, guard }).run P w = vOut ((fillA pl z (ps.toList.map fun p => (p.1, ρ p.2))).map .agg) w (opRest P ρ { dst, op := .build T ps, type := ty, pos, after, guard } w) := by
  cases h : fillA pl z (ps.toList.map fun p => (p.1, ρ p.2)) with
  | none => rfl
  | some r =>
    unfold execOp
    simp only [Sem.run_bind]
    rw [run_build_struct hz hu hp _ w r (by simpa using h)]
    rfl
end
def placesB : List (Nat × Nat) := [(0, 32), (32, 32), (64, 1), (65, 1)]
def placesC : List (Nat × Nat) := [(0, 1), (1, 32)]
def placesA : List (Nat × Nat) := [(0, 1), (1, 1), (2, 32), (34, 33), (67, 33)]
theorem fieldsB : ∀ w : World, ((Try.prog.fieldsOf 26).mapM (m := Sem) fun f => do pure (f.offset, ← Go.sizeOf f.type)).run Try.prog w = .ok placesB.toArray w := fun _ => by kernel_rfl
theorem fieldsC : ∀ w : World, ((Try.prog.fieldsOf 28).mapM (m := Sem) fun f => do pure (f.offset, ← Go.sizeOf f.type)).run Try.prog w = .ok placesC.toArray w := fun _ => by kernel_rfl
theorem fieldsA : ∀ w : World, ((Try.prog.fieldsOf 30).mapM (m := Sem) fun f => do pure (f.offset, ← Go.sizeOf f.type)).run Try.prog w = .ok placesA.toArray w := fun _ => by kernel_rfl
theorem underB : Try.prog.underlying 26 = some (.struct (Try.prog.fieldsOf 26)) := by kernel_rfl
theorem underC : Try.prog.underlying 28 = some (.struct (Try.prog.fieldsOf 28)) := by kernel_rfl
theorem underA : Try.prog.underlying 30 = some (.struct (Try.prog.fieldsOf 30)) := by kernel_rfl
@[go_sem ↓] theorem build_blockP (ρ : Operand → Value) (dst : Option Tmp) (p : Nat × Operand) (ps : List (Nat × Operand)) (ty : TypeId) (pos : String) (after : Array Edge) (guard : Option (Nat × Bool)) (w : World) :
    (execOp ρ { dst, op := .build 26 (p :: ps).toArray, type := ty, pos, after, guard }).run Try.prog w = vOut ((fillA placesB (bc zb) ((p.1, ρ p.2) :: ps.map fun p => (p.1, ρ p.2))).map .agg) w (opRest Try.prog ρ { dst, op := .build 26 (p :: ps).toArray, type := ty, pos, after, guard } w) :=
  build_out zero_block underB fieldsB ρ dst (p :: ps).toArray ty pos after guard w
@[go_sem ↓] theorem build_checkP (ρ : Operand → Value) (dst : Option Tmp) (p : Nat × Operand) (ps : List (Nat × Operand)) (ty : TypeId) (pos : String) (after : Array Edge) (guard : Option (Nat × Bool)) (w : World) :
    (execOp ρ { dst, op := .build 28 (p :: ps).toArray, type := ty, pos, after, guard }).run Try.prog w = vOut ((fillA placesC (cc zc) ((p.1, ρ p.2) :: ps.map fun p => (p.1, ρ p.2))).map .agg) w (opRest Try.prog ρ { dst, op := .build 28 (p :: ps).toArray, type := ty, pos, after, guard } w) :=
  build_out zero_check underC fieldsC ρ dst (p :: ps).toArray ty pos after guard w
@[go_sem ↓] theorem build_attP (ρ : Operand → Value) (dst : Option Tmp) (p : Nat × Operand) (ps : List (Nat × Operand)) (ty : TypeId) (pos : String) (after : Array Edge) (guard : Option (Nat × Bool)) (w : World) :
    (execOp ρ { dst, op := .build 30 (p :: ps).toArray, type := ty, pos, after, guard }).run Try.prog w = vOut ((fillA placesA (ac za) ((p.1, ρ p.2) :: ps.map fun p => (p.1, ρ p.2))).map .agg) w (opRest Try.prog ρ { dst, op := .build 30 (p :: ps).toArray, type := ty, pos, after, guard } w) :=
  build_out zero_att underA fieldsA ρ dst (p :: ps).toArray ty pos after guard w
attribute [go_sem] fillA placesB placesC placesA bc_root bc_parent ac_val ac_head ac_source ac_target cc_root
@[go_sem] theorem bc_slot' (b : Blk) (n : UInt64) : putSeg (bc b) 64 #[.int .u64 (n.toNat : Int)] = bc { b with slot := n } := bc_slot b n
@[go_sem] theorem bc_just' (b : Blk) (n : UInt64) : putSeg (bc b) 65 #[.int .u64 (n.toNat : Int)] = bc { b with just := n } := bc_just b n
@[go_sem] theorem cc_epoch' (x : Ck) (n : UInt64) : putSeg (cc x) 0 #[.int .u64 (n.toNat : Int)] = cc { x with epoch := n } := cc_epoch x n
@[go_sem] theorem ac_slot' (a : At) (n : UInt64) : putSeg (ac a) 1 #[.int .u64 (n.toNat : Int)] = ac { a with slot := n } := ac_slot a n

theorem St.drew {T : TypeId} {z : Array Value} {w W : World} {c : Array Value} (h : St T z w W c) : St T z w W.drew c := ⟨h.below.drew, h.out, h.res⟩
theorem putSeg_all {c r : Array Value} (h : c.size = r.size) : putSeg c 0 r = r := by
  unfold putSeg
  rw [List.take_zero, List.nil_append, List.drop_of_length_le (by simp; omega), List.append_nil, Array.toArray_toList]
theorem or_two (x y : Int) (hx : 0 ≤ x) (hx1 : x < 256) (hy : 0 ≤ y) (hy1 : y < 256) : bits .or .i64 (x * 256) y = 256 * x + y := by
  have hj := bits_join .i64 62 (by decide) (fun n h1 h2 => IntWalk.i64_in n (by omega)) 8 (x * 256) y (by omega) (by omega) (by omega) (by omega) (by omega) (by omega)
  rw [hj]
  omega

set_option maxRecDepth 100000 in
set_option maxHeartbeats 1000000 in
theorem att_no (v : Value) (l : List UInt8) (w : World) (h : SlB w v l) (hB : isA l = false) : Calls Try.prog 14 #[v] w (AttIs l w) := by
  have HS := Lib.hid h; clear h
  have b0 : Below w.heap.size w (w.alloc (.cells (ac za) 30)) := (Below.refl w.heap.size w).alloc (Nat.le_refl _) _
  have c1 := isOf_any v l 2 123 (by omega) _ (slB_keep b0 HS.out)
  rw [show headIs l 2 123 = isA l from rfl, hB] at c1
  have HB := Lib.hid hB
  clear hB
  go_enter Try.func14, Try.ntmps14
  go_wp2_with fail
  refine c1.mono ?_
  rintro e w1 ⟨rfl, rfl⟩
  clear c1
  go_wp2_with fail
  exact bodyPost_ret (results_agg2 Try.isAgg30 Try.sizeOf30 _ 2 3 rfl _ _ _ (ac za) _ rfl rfl (by go_simp)) rfl ⟨by rw [attOf_not HB.out, HB.out]; rfl, by assumption⟩

set_option maxRecDepth 100000 in
set_option maxHeartbeats 2000000 in
theorem att_yes (v : Value) (l : List UInt8) (w : World) (h : SlB w v l) (hB : isA l = true) : Calls Try.prog 14 #[v] w (AttIs l w) := by
  have HS := Lib.hid h
  have hl := isA_len hB
  have b0 : Below w.heap.size w (w.alloc (.cells (ac za) 30)) := (Below.refl w.heap.size w).alloc (Nat.le_refl _) _
  have c1 := isOf_any v l 2 123 (by omega) _ (slB_keep b0 HS.out)
  rw [show headIs l 2 123 = isA l from rfl, hB] at c1
  have HE : Hid (Ending.returned (.tuple #[.agg (ac (getA l)), .bool true]) = .returned (.tuple #[.agg (ac (attOf l)), .bool (isA l)])) := by
    show _ = _
    unfold attOf
    rw [if_pos hB, hB]
  obtain ⟨b, off, cap, rfl, hcap, hb, hx⟩ := slB_ne h (by omega)
  obtain ⟨v0, hv0, hs0⟩ := cut_fromB (some ⟨b, off, none⟩) cap l 3 (by omega) hcap
  replace hv0 : cutFB (.slice (some ⟨b, off, none⟩) l.length cap) (.int .i64 3) = some v0 := hv0
  have x1 : (w.alloc (.cells (ac za) 30)).cell? ⟨b, off + 1, none⟩ = some (.int .u8 (bt l 1)) := by rw [World.cell?_alloc_lt _ _ _ hb]; exact hx 1 (by omega)
  have x2 : (w.alloc (.cells (ac za) 30)).cell? ⟨b, off + 2, none⟩ = some (.int .u8 (bt l 2)) := by rw [World.cell?_alloc_lt _ _ _ hb]; exact hx 2 (by omega)
  have i1 : (1 : Int) < (l.length : Int) := by omega
  have i2 : (2 : Int) < (l.length : Int) := by omega
  have y1 := bt_bd l 1
  have y2 := bt_bd l 2
  have hor := or_two (bt l 1) (bt l 2) y1.1 y1.2 y2.1 y2.2
  obtain ⟨l1, hl1⟩ : ∃ l1, l1 = l.drop 3 := ⟨_, rfl⟩
  obtain ⟨l2, hl2⟩ : ∃ l2, l2 = l.drop 11 := ⟨_, rfl⟩
  obtain ⟨l3, hl3⟩ : ∃ l3, l3 = l.drop 43 := ⟨_, rfl⟩
  obtain ⟨l4, hl4⟩ : ∃ l4, l4 = l.drop 83 := ⟨_, rfl⟩
  have HG : Hid (getA l = ⟨256 * bt l 1 + bt l 2, unnum l1, rtOf l2, getC l3, getC l4⟩) := by show _ = _; rw [hl1, hl2, hl3, hl4]; rfl
  have HS0 := Lib.hid (hs0 _ HS.out)
  rw [← hl1] at HS0
  have H1 : Hid (8 ≤ l1.length) := by show _ ≤ _; rw [hl1, List.length_drop]; omega
  have H2 : Hid (32 ≤ l2.length) := by show _ ≤ _; rw [hl2, List.length_drop]; omega
  have H3 : Hid (40 ≤ l3.length) := by show _ ≤ _; rw [hl3, List.length_drop]; omega
  have H4 : Hid (40 ≤ l4.length) := by show _ ≤ _; rw [hl4, List.length_drop]; omega
  have E2 : Hid (l1.drop 8 = l2) := by show _ = _; rw [hl1, hl2, List.drop_drop]
  have E3 : Hid (l2.drop 32 = l3) := by show _ = _; rw [hl2, hl3, List.drop_drop]
  have E4 : Hid (l3.drop 40 = l4) := by show _ = _; rw [hl3, hl4, List.drop_drop]
  clear hB hs0 hl h hx hl1 hl2 hl3 hl4
  have HZ0 := Lib.hid (St.start w 30 (ac za) (ac za))
  go_enter Try.func14, Try.ntmps14
  go_wp2_with fail
  refine c1.mono ?_
  rintro e w1 ⟨rfl, rfl⟩
  clear c1
  go_wp2_with fail
  go_region
  have HY0 := Lib.hid ((HZ0.out.drew.store 0 (ac { za with val := 256 * bt l 1 + bt l 2 }) (by rw [ac_size, ac_size]; omega)).to (putSeg_all (by rw [ac_size, ac_size])))
  clear x1 x2 y1 y2 hor b0
  go_wp2_with fail
  refine (takeNumber_any v0 l1 H1.out _ (slB_keep HY0.out.below HS0.out)).mono ?_
  rintro e w1 ⟨v1, rfl, hs1, hb1⟩
  have HZ1 := Lib.hid (HY0.out.call hb1)
  rw [E2.out] at hs1
  have HS1 := Lib.hid (hs1 _ HS0.out)
  have r1 := att_slot HZ1.out.out
  have q1 := HZ1.out.fz 1
  have HY1 := Lib.hid ((HZ1.out.set 1 (num (unnum l1)) (by rw [ac_size]; omega)).to (ac_slot _ _))
  clear hs1 hb1 hv0
  go_wp2_with fail
  refine (takeRoot_any v1 l2 H2.out _ (slB_keep HY1.out.below HS1.out)).mono ?_
  rintro e w2 ⟨v2, rfl, hs2, hb2⟩
  have HZ2 := Lib.hid (HY1.out.call hb2)
  rw [E3.out] at hs2
  have HS2 := Lib.hid (hs2 _ HS1.out)
  have r2 := HZ2.out.wr 2 32 (by rw [ac_size]; omega)
  have HY2 := Lib.hid ((HZ2.out.store 2 (rc (rtOf l2)) (by rw [ac_size, rc_size]; omega)).to (ac_head _ _))
  clear hs2 hb2 r1 q1
  go_wp2_with fail
  refine (takeCheck_any v2 l3 H3.out _ (slB_keep HY2.out.below HS2.out)).mono ?_
  rintro e w3 ⟨v3, rfl, hs3, hb3⟩
  have HZ3 := Lib.hid (HY2.out.call hb3)
  rw [E4.out] at hs3
  have HS3 := Lib.hid (hs3 _ HS2.out)
  have r3 := HZ3.out.wr 34 33 (by rw [ac_size]; omega)
  have HY3 := Lib.hid ((HZ3.out.store 34 (cc (getC l3)) (by rw [ac_size, cc_size]; omega)).to (ac_source _ _))
  clear hs3 hb3 r2
  go_wp2_with fail
  refine (takeCheck_any v3 l4 H4.out _ (slB_keep HY3.out.below HS3.out)).mono ?_
  rintro e w4 ⟨v4, rfl, hs4, hb4⟩
  have HZ4 := Lib.hid (HY3.out.call hb4)
  have r4 := HZ4.out.wr 67 33 (by rw [ac_size]; omega)
  have HY4 := Lib.hid ((HZ4.out.store 67 (cc (getC l4)) (by rw [ac_size, cc_size]; omega)).to (ac_target _ _))
  have l4' := HY4.out.ld 100 (ac_size _)
  have t4 := HY4.out.wr0 100 (ac_size _)
  have HT4 := Lib.hid t4
  clear hs4 hb4 r3
  go_wp2_with fail
  refine bodyPost_ret (results_agg2 Try.isAgg30 Try.sizeOf30 _ 2 3 rfl _ _ _ _ _ rfl rfl (ldA_stA_same HT4.out (ac_size _))) rfl ⟨?_, below_stA HY4.out.below (Nat.le_refl _)⟩
  rw [← HE.out, HG.out]
  rfl
theorem att_any (v : Value) (l : List UInt8) (w : World) (h : SlB w v l) : Calls Try.prog 14 #[v] w (AttIs l w) := by
  cases hB : isA l with
  | true => exact att_yes v l w h hB
  | false => exact att_no v l w h hB
end Go.Proofs.Ytjdpndclgmdahaa
