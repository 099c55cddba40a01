/-
  The document's links: Guilty, walked. (written by wip/gen/ref15.py)
  Two aggregates laid one behind the other; for every program.
  A slice of two links, written out.
-/
import Derived.Test.YtkbifcfgcokmlaaQ17
import Derived.Test.YtkbifcfgcokmlaaQ06
import Derived.Test.YtkbifcfgcokmlaaQ12
namespace Go.Proofs.Ytkbifcfgcokmlaa
open Go.RowKit
set_option maxRecDepth 100000

set_option maxRecDepth 100000 in
set_option maxHeartbeats 8000000 in
theorem ref15Guilty_n (p : Option Addr) (n cp : Nat) (l : List Lk) (w : World) (h : SlE Elk w (.slice p n cp) l) (hl : l.length = n) (hn : n ≤ 1000) :
    Calls Try.prog 21 #[.slice p n cp] w fun e w' => e = .returned (.int .u64 ((guiltT l).toNat : Int)) ∧ Below w.heap.size w w' := by
  have HS := Lib.hid h
  have HL := Lib.hid hl
  have HN := Lib.hid hn
  have HO := Lib.hid (fun (a b : Lk) W => ref15Clash a b W)
  have HR : Hid (guiltT l = guiltF l n) := by show _ = _; rw [← hl]; rfl
  have H1 : Hid (∀ i, guiltF l (i + 1) = guiltIn l i i (guiltF l i)) := fun i => rfl
  have H2 : Hid (∀ i k, clashB (lkAt l i) (lkAt l k) = true → guiltIn l i (k + 1) (guiltF l i) = guiltIn l i k (guiltF l i) ||| ((lkAt l i).mask &&& (lkAt l k).mask)) := fun i k e => by
    show (if clashB (lkAt l i) (lkAt l k) = true then guiltIn l i k (guiltF l i) ||| ((lkAt l i).mask &&& (lkAt l k).mask) else guiltIn l i k (guiltF l i)) = _
    rw [if_pos e]
  have H3 : Hid (∀ i k, clashB (lkAt l i) (lkAt l k) = false → guiltIn l i (k + 1) (guiltF l i) = guiltIn l i k (guiltF l i)) := fun i k e => by
    show (if clashB (lkAt l i) (lkAt l k) = true then guiltIn l i k (guiltF l i) ||| ((lkAt l i).mask &&& (lkAt l k).mask) else guiltIn l i k (guiltF l i)) = _
    rw [if_neg (by rw [e]; exact Bool.false_ne_true)]
  rw [HR.out]
  clear h hl hn
  go_enter Try.func21, Try.ntmps21
  go_wp2_with fail
  go_loopw [3, 4] (fun g i wr => ∃ j : Nat, j ≤ n ∧ i = .int .i64 (j : Int) ∧ g = .int .u64 ((guiltF l j).toNat : Int) ∧ Below w.heap.size w wr) (fun _ i _ => n - (intOf i).toNat)
  case atStart => exact ⟨0, Nat.zero_le _, rfl, rfl, Below.refl _ _⟩
  case round =>
    obtain ⟨j, hj, rfl, rfl, hb⟩ := hrel
    obtain ⟨wo, rfl⟩ : ∃ wo : World, wo = wr := ⟨_, rfl⟩
    have HB := Lib.hid hb
    clear hb
    by_cases hlt : j < n
    · have i0 : (0 : Int) ≤ (j : Int) := by omega
      have i1 : (j : Int) < (n : Int) := by omega
      have u1 : (j : Int) + 1 < 10000 := by have := HN.out; omega
      have d0 : decide ((j : Int) < (n : Int)) = true := decide_eq_true i1
      have d0' : decide (j < n) = true := decide_eq_true hlt
      have HLT := Lib.hid hlt
      clear hlt
      go_wp2_with fail
      clear d0 d0'
      go_loopw [3, 5] (fun g k wr => ∃ q : Nat, q ≤ j ∧ k = .int .i64 (q : Int) ∧ g = .int .u64 ((guiltIn l j q (guiltF l j)).toNat : Int) ∧ Below wo.heap.size wo wr) (fun _ k _ => j - (intOf k).toNat)
      case atStart => exact ⟨0, Nat.zero_le _, rfl, rfl, Below.refl _ _⟩
      case round =>
        obtain ⟨q, hq, rfl, rfl, hb⟩ := hrel
        have HI := Lib.hid hb
        clear hb
        by_cases hqj : q < j
        · have d1 : decide ((q : Int) < (j : Int)) = true := decide_eq_true (by omega)
          have d1' : decide (q < j) = true := decide_eq_true hqj
          have q0 : (0 : Int) ≤ (q : Int) := by omega
          have q1 : (q : Int) < (n : Int) := by omega
          have q2 : (q : Int) + 1 < 10000 := by omega
          have HQ := Lib.hid hqj
          obtain ⟨b2, o2, rfl, _, x2⟩ := lks_ptr (slE_keep (belowT HB.out HI.out) HS.out) (by have := HL.out; omega)
          have X2 := Lib.hid x2
          have y1 := lks_ld x2 (i := j) (by have := HL.out; omega)
          have y2 := lks_ld x2 (i := q) (by have := HL.out; omega)
          have HC := Lib.hid (fun W => HO.out (lkAt l j) (lkAt l q) W)
          have HYes := Lib.hid (H2.out j q)
          have HNo := Lib.hid (H3.out j q)
          have HM1 : Hid (∀ W, Below wr.heap.size wr W → W.cell? ⟨b2, o2 + j * 67 + 66, none⟩ = some (.int .u64 ((lkAt l j).mask.toNat : Int)) ∧ W.cell? ⟨b2, o2 + q * 67 + 66, none⟩ = some (.int .u64 ((lkAt l q).mask.toNat : Int))) := fun W g => ⟨lks_mask (keepR g X2.out) (by have := HL.out; have := HLT.out; omega), lks_mask (keepR g X2.out) (by have := HL.out; have := HLT.out; have := HQ.out; omega)⟩
          obtain ⟨E, hE⟩ : ∃ E, E = clashB (lkAt l j) (lkAt l q) := ⟨_, rfl⟩
          rw [← hE] at HC HYes HNo
          obtain ⟨G, hG⟩ : ∃ G, G = guiltIn l j q (guiltF l j) := ⟨_, rfl⟩
          rw [← hG] at HYes HNo
          rw [← hG]
          generalize lkAt l j = Lj at *
          generalize lkAt l q = Lq at *
          clear hqj x2 hE hG
          go_wp2_with fail
          have L0 := fun p : Wd wr.drew => wd_ld y1 (by decide) p
          have L1 := fun p : Wd wr.drew => wd_ld y2 (by decide) p
          clear y1 y2
          refine wp_region_lex [8] (by kernel_rfl) (by kernel_rfl) (by kernel_rfl) ?_
          repeat (first | (refine wpXL_quiet rfl rfl _ cls_begin ?_; (first | go_big_quiet_step (fail) | quiet_step (fail)); refine wpQuiet_nil ?_) | refine wpXL_skip rfl ?_)
          refine wpXL_call rfl rfl rfl enters_ref15Clash #[.agg (lk Lj), .agg (lk Lq)] rfl ?_
          refine (HC.out _).mono ?_
          rintro e u ⟨rfl, g⟩
          refine ⟨_, rfl, g, ?_⟩
          simp only [Act.put, List.setIfInBounds_toArray, List.set_cons_zero, List.set_cons_succ]
          have G1 : Hid (Below wr.heap.size wr u) := belowT (belowD (Below.refl _ _) 1) g
          clear g
          repeat (first | (refine wpXL_quiet rfl rfl _ cls_begin ?_; (first | go_big_quiet_step (fail) | quiet_step (fail)); refine wpQuiet_nil ?_) | refine wpXL_skip rfl ?_)
          refine wpXL_nil ?_
          clear L0 L1
          cases E
          · have HE := Lib.hid (HNo.out rfl)
            go_wp2_with fail
            go_roundw
            case rel => exact ⟨q + 1, HQ.out, by go_num, by rw [HE.out], belowT HI.out G1.out⟩
            case measure => simp [intOf]; have := HQ.out; omega
          · have HE := Lib.hid (HYes.out rfl)
            obtain ⟨m1, m2⟩ := HM1.out u G1.out
            have a1 := k_and Lj.mask Lq.mask
            have a2 := k_or G (Lj.mask &&& Lq.mask)
            generalize hX : Lj.mask &&& Lq.mask = X at *
            generalize hY : G ||| X = Y at *
            clear hX hY
            go_wp2_with fail
            go_quiet (fail)
            go_wp2_with fail
            go_roundw
            case rel => exact ⟨q + 1, HQ.out, by go_num, by rw [HE.out], belowD (belowT HI.out G1.out) _⟩
            case measure => simp [intOf]; have := HQ.out; omega
        · obtain rfl : q = j := by omega
          have d1 : decide ((q : Int) < (q : Int)) = false := decide_eq_false (Int.lt_irrefl _)
          have d1' : decide (q < q) = false := decide_eq_false (Nat.lt_irrefl _)
          clear hqj
          go_wp2_with fail
          go_roundw
          case rel => exact ⟨q + 1, HLT.out, by go_num, by rw [H1.out], belowT HB.out HI.out⟩
          case measure => simp [intOf]; have := HLT.out; omega
    · obtain rfl : j = n := by omega
      have d0 : decide ((j : Int) < (j : Int)) = false := decide_eq_false (Int.lt_irrefl _)
      have d0' : decide (j < j) = false := decide_eq_false (Nat.lt_irrefl _)
      clear hlt
      go_wp2_with fail
      go_ret
      exact ⟨rfl, HB.out⟩
theorem ref15Guilty (v : Value) (l : List Lk) (w : World) (h : SlE Elk w v l) (hn : l.length ≤ 1000) :
    Calls Try.prog 21 #[v] w fun e w' => e = .returned (.int .u64 ((guiltT l).toNat : Int)) ∧ Below w.heap.size w w' := by
  have k := h
  obtain ⟨p, cp, rfl, _⟩ := slE_shape h
  exact ref15Guilty_n p _ cp l w k rfl hn
theorem enters_ref15Guilty : ∀ args w, (callFunc 21 args).run Try.prog w = .ok (.enter 21 args) w := entersE Try.func21 (by kernel_rfl) (by kernel_rfl)
end Go.Proofs.Ytkbifcfgcokmlaa
namespace Go.Proofs.Ytkbifcfgcokmlaa
open Go.RowKit
set_option maxRecDepth 100000
theorem foldl_zip_at (z c : Array Value) (o : Nat) (h : o + c.size ≤ z.size) (j : Nat) : (c.zipIdx.foldl (fun cs (p : Value × Nat) => cs.setIfInBounds (o + p.2) p.1) z)[j]? = if o ≤ j ∧ j < o + c.size then c[j - o]? else z[j]? := by
  have e : c.zipIdx.foldl (fun cs (p : Value × Nat) => cs.setIfInBounds (o + p.2) p.1) z = ((c.toList.zipIdx o).foldl (fun c p => c.setIfInBounds p.2 p.1) z) := by
    rw [← Array.foldl_toList, Array.toList_zipIdx, List.zipIdx_eq_map_add (l := c.toList) (i := o), List.foldl_map]
  rw [e, foldl_set]
  by_cases hj : o ≤ j ∧ j < o + c.size
  · rw [if_pos (by simp; omega), if_pos hj]; simp
  · rw [if_neg (by simp; omega), if_neg hj]
theorem foldl_size (c : Array Value) (o : Nat) (z : Array Value) : (c.zipIdx.foldl (fun cs (p : Value × Nat) => cs.setIfInBounds (o + p.2) p.1) z).size = z.size := by
  rw [← Array.foldl_toList]
  generalize c.zipIdx.toList = l
  induction l generalizing z with
  | nil => rfl
  | cons a l ih => rw [List.foldl_cons, ih]; simp
theorem fold2 (n : Nat) (z c d : Array Value) (hz : z.size = 2 * n) (hc : c.size = n) (hd : d.size = n) :
    d.zipIdx.foldl (fun cs (p : Value × Nat) => cs.setIfInBounds (n + p.2) p.1) (c.zipIdx.foldl (fun cs (p : Value × Nat) => cs.setIfInBounds (0 + p.2) p.1) z) = c ++ d := by
  apply Array.ext_getElem?
  intro j
  rw [foldl_zip_at _ d n (by rw [foldl_size]; omega), foldl_zip_at _ c 0 (by omega), Array.getElem?_append]
  by_cases h1 : n ≤ j ∧ j < n + d.size
  · rw [if_pos h1, if_neg (by omega), hc]
  · rw [if_neg h1]
    by_cases h2 : j < c.size
    · rw [if_pos (by omega), if_pos h2, Nat.sub_zero]
    · rw [if_neg (by omega), if_neg h2, Array.getElem?_eq_none (by omega), Array.getElem?_eq_none (by omega)]
theorem okA_agg {x : Value} {n : Nat} (hx : okA n x = true) : ∃ c, x = .agg c ∧ c.size = n := by
  unfold okA at hx
  split at hx
  · rename_i c
    rw [Bool.and_eq_true, beq_iff_eq] at hx
    exact ⟨c, rfl, hx.1⟩
  · cases hx
end Go.Proofs.Ytkbifcfgcokmlaa
namespace Go.Proofs.Ytkbifcfgcokmlaa
open Go.RowKit
set_option maxRecDepth 100000
@[go_sem ↓] theorem buildSlice2_lk (ρ : Operand → Value) (dst : Option Tmp) (x y : Operand) (ty : TypeId) (pos : String) (after : Array Edge) (guard : Option (Nat × Bool)) (w : World) (hx : okA 67 (ρ x) = true) (hy : okA 67 (ρ y) = true) :
    (execOp ρ { dst, op := .buildSlice 22 2 #[(0, x), (1, y)], type := ty, pos, after, guard }).run Try.prog w = .ok (.value (.slice (some ⟨w.heap.size, 0, none⟩) 2 2)) (w.alloc (.cells (cellsA (ρ x) ++ cellsA (ρ y)) 36)) := by
  obtain ⟨c, hc, hn⟩ := okA_agg hx
  obtain ⟨d, hd, hm⟩ := okA_agg hy
  have hp : (2 * 67 > 2 ^ 24) = False := by simp
  have h0 : (2 * 67 = 0) = False := by simp
  unfold execOp
  simp only [Instr.buildSlice, Sem.run_bind, run_underlying Try.underlying22, Result.andThen_ok, Try.sizeOf36, hp, h0, if_false, zero_lk, Value.cells]
  simp only [List.map_toArray, List.map_cons, List.map_nil, hc, hd, Instr.fill, Value.cells, hn, hm]
  simp only [Sem.run_pure, Result.andThen_ok]
  generalize hz : (Array.range (2 * 67)).map (fun x => (lk zlk)[x % (lk zlk).size]!) = z
  have hzs : z.size = 2 * 67 := by rw [← hz]; simp
  have h1 := foldl_size c 0 z
  have h2 := fold2 67 z c d hzs hn hm
  simp only [Nat.zero_mul, Nat.one_mul, h1, h2, hzs]
  simp [cellsA]
  rfl
theorem lk_lit2 (w : World) (x y : Lk) (b : Nat) (hb : b = w.heap.size) : SlE Elk (w.alloc (.cells (lk x ++ lk y) 36)) (.slice (some ⟨b, 0, none⟩) 2 2) [x, y] :=
  slE_lit w _ 2 _ _ b rfl hb (by simp [cellsE, Elk, lk_list])
end Go.Proofs.Ytkbifcfgcokmlaa
