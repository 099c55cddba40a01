/-
  The law's own 'awake' of layer 3, walked.
-/
import Derived.Test.YtjdpndclgmdahaaWireB
import Derived.Test.YtjdpndclgmdahaaWireE
namespace Go.Proofs.Ytjdpndclgmdahaa
open Go.RowKit

/-- A root's literal with one byte. -/
def bRt (v : Value) : Option Value :=
  match v with
  | .int .u8 n => some (.agg (putSeg (rc zr) 0 #[.int .u8 n]))
  | _ => none
@[go_sem] theorem bRt_int (n : Int) : bRt (.int .u8 n) = some (.agg (putSeg (rc zr) 0 #[.int .u8 n])) := rfl
@[go_sem ↓] theorem build_root1 (ρ : Operand → Value) (dst : Option Tmp) (x : Operand) (ty : TypeId) (pos : String) (after : Array Edge) (guard : Option (Nat × Bool)) (w : World) :
    (execOp ρ { dst, op := .build 23 #[(0, x)], type := ty, pos, after, guard }).run Try.prog w = vOut (bRt (ρ x)) w (opRest Try.prog ρ { dst, op := .build 23 #[(0, x)], type := ty, pos, after, guard } w) := by
  cases h : bRt (ρ x) with
  | none => rfl
  | some v =>
    unfold bRt at h
    split at h
    · rename_i n hx
      have hv := Option.some.inj h
      subst hv
      have hf : Instr.fill (fun i => some (i * 1, 1)) (rc zr) [(0, .int .u8 n)] = some (putSeg (rc zr) 0 #[.int .u8 n]) := by
        rw [fill_cons _ (rc zr) 0 (.int .u8 n) [] (0 * 1) 1 rfl rfl (by rw [rc_size]; omega)]
        rfl
      unfold execOp
      simp only [Instr.build, Sem.run_bind, zero_root, Result.andThen_ok, run_underlying Try.underlying23, Try.sizeOf5, List.map_toArray, List.map_cons, List.map_nil, hx, Value.cells, hf]
      rfl
    · cases h
def r7 : Rt := rtOf [7]
@[go_sem] theorem put_r7 : putSeg (rc zr) 0 #[.int .u8 7] = rc r7 := by kernel_rfl
def B0 : Blk := ⟨r7, zr, 0, 5⟩
def A0 : At := ⟨258, 3, zr, zc, zc⟩
theorem b0_80 : bt (putB B0) 80 = 5 := by kernel_rfl
theorem b0_1 : bt (putB B0) 1 = 7 := by kernel_rfl
theorem a0_1 : bt (putA A0) 1 = 1 := by kernel_rfl
theorem a0_2 : bt (putA A0) 2 = 2 := by kernel_rfl
attribute [irreducible] B0 A0 r7

set_option maxRecDepth 100000 in
set_option maxHeartbeats 2000000 in
theorem awake_any (w : World) : Calls Try.prog 9 #[] w fun e w' => e = .returned (.bool true) ∧ Below w.heap.size w w' := by
  have e5 : ∀ b : Blk, putSeg (bc b) 65 #[.int .u64 5] = bc { b with just := 5 } := fun b => bc_just b 5
  have e3 : ∀ a : At, putSeg (ac a) 1 #[.int .u64 3] = ac { a with slot := 3 } := fun a => ac_slot a 3
  have eB : bc ⟨r7, zb.parent, zb.slot, 5⟩ = bc B0 := by unfold B0; rfl
  have eA : ac ⟨258, 3, za.head, za.source, za.target⟩ = ac A0 := by unfold A0; rfl
  go_enter Try.func9, Try.ntmps9
  go_wp2_with fail
  refine (putBlock_any B0 _).mono ?_
  rintro e w1 ⟨v1, rfl, hs1, hb1⟩
  have HS1 := Lib.hid hs1
  have HB1 := Lib.hid hb1
  clear hs1 hb1
  obtain ⟨g1, o1, c1, hv1, hc1, hl1, hx1⟩ := slB_ne HS1.out (by rw [putB_length]; omega)
  rw [putB_length] at hv1
  subst hv1
  have HX1 := Lib.hid hx1
  clear hx1 hc1 hl1
  go_wp2_with fail
  refine (block_any _ _ _ HS1.out).mono ?_
  rintro e w2 ⟨rfl, hb2⟩
  rw [blkOf_putB, isB_putB]
  have HB2 := Lib.hid hb2
  clear hb2
  go_wp2_with fail
  refine (putAtt_any A0 _).mono ?_
  rintro e w3 ⟨v3, rfl, hs3, hb3⟩
  have ok : okV A0.val = true := by kernel_rfl
  rw [ok]
  have hp : putAs A0 = putA A0 := by unfold putAs; rw [if_pos ok]
  rw [hp] at hs3
  have HS3 := Lib.hid hs3
  have HB3 := Lib.hid hb3
  clear hs3 hb3 hp
  obtain ⟨g3, o3, c3, hv3, hc3, hl3, hx3⟩ := slB_ne HS3.out (by rw [putA_length]; omega)
  rw [putA_length] at hv3
  subst hv3
  have HX3 := Lib.hid hx3
  have HOK := Lib.hid ok
  clear hx3 hc3 hl3 ok
  go_wp2_with fail
  refine (att_any _ _ _ HS3.out).mono ?_
  rintro e w4 ⟨rfl, hb4⟩
  rw [attOf_putA A0 HOK.out, isA_putA]
  have HB4 := Lib.hid hb4
  clear hb4
  have D3 : Below w2.heap.size w2 w3 := (((Below.refl w2.heap.size w2).alloc (Nat.le_refl _) _).trans (HB3.out.mono (by simp)))
  have D4 := belowT D3 HB4.out
  have D5 : Below w4.heap.size w4 (w4.alloc (.cells (ac A0) 30)) := (Below.refl _ _).alloc (Nat.le_refl _) _
  have F1 := fun i hi => (belowT (belowT HB2.out D4) D5).cell (p := ⟨g1, o1 + i, none⟩) (block_lt_of_cell (HX1.out i hi)) |>.trans (HX1.out i hi)
  have F3 := fun i hi => (belowT HB4.out D5).cell (p := ⟨g3, o3 + i, none⟩) (block_lt_of_cell (HX3.out i hi)) |>.trans (HX3.out i hi)
  have f80 := F1 80 (by rw [putB_length]; omega)
  have f1 := F1 1 (by rw [putB_length]; omega)
  have k1 := F3 1 (by rw [putA_length]; omega)
  have k2 := F3 2 (by rw [putA_length]; omega)
  rw [b0_80] at f80
  rw [b0_1] at f1
  rw [a0_1] at k1
  rw [a0_2] at k2
  have gx : (w4.alloc (.cells (ac A0) 30)).heap[w2.heap.size]? = some (.cells (bc B0) 26 (0, 0)) := by
    refine heap_alloc_keep ?_
    rw [HB4.out.block _ (by have := HB3.out.size; simp at this; omega), HB3.out.block _ (by simp)]
    exact heap_alloc_last w2 _
  have gy : (w4.alloc (.cells (ac A0) 30)).heap[w4.heap.size]? = some (.cells (ac A0) 30 (0, 0)) := heap_alloc_last w4 _
  have fx := blk_just gx
  have fy := att_val gy
  have fz := att_slot gy
  rw [show B0.just = 5 by kernel_rfl, show num 5 = .int .u64 5 from rfl] at fx
  rw [show A0.val = 258 by kernel_rfl] at fy
  rw [show A0.slot = 3 by kernel_rfl, show num 3 = .int .u64 3 from rfl] at fz
  have HD := Lib.hid (belowT (belowT (belowT HB1.out HB2.out) D4) D5)
  clear D3 D4 D5 F1 F3 gx gy e5 e3 eB eA
  go_wp2_with fail
  go_ret
  exact ⟨rfl, HD.out⟩
end Go.Proofs.Ytjdpndclgmdahaa
