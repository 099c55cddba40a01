/-
  Package wire: isOf, takeRoot, takeNumber, takeCheck, walked.
-/
import Derived.Test.YtjdpndclgmdahaaWireM
import Derived.Lib.EndianBits
namespace Go.Proofs.Ytjdpndclgmdahaa
open Go.RowKit

section
variable {P : Program}
theorem results_agg2 {T : TypeId} {n : Nat} (hA : ∀ w, (isAgg T).run P w = .ok true w) (hS : ∀ w, (Go.sizeOf T).run P w = .ok n w) (fn : Func) (d e : Nat) (h : fn.results = #[.cell d T, .tmp e]) (tmps : Array Value) (w : World) (b : Nat) (c : Array Value) (v : Value) (hp : tmps.getD d undef = .pointer (some ⟨b, 0, none⟩)) (hv : tmps.getD e undef = v) (hl : ldA w (.pointer (some ⟨b, 0, none⟩)) n = some c) :
    (results fn tmps).run P w = .ok (.tuple #[.agg c, v]) w := by
  have hp' : tmps[d]?.getD undef = .pointer (some ⟨b, 0, none⟩) := by simpa using hp
  have hv' : tmps[e]?.getD undef = v := by simpa using hv
  simp [results, h, hp', hv', asAddr, run_loadVar_agg hA hS w b 0 c hl]
theorem results_agg1 {T : TypeId} {n : Nat} (hA : ∀ w, (isAgg T).run P w = .ok true w) (hS : ∀ w, (Go.sizeOf T).run P w = .ok n w) (fn : Func) (d : Nat) (h : fn.results = #[.cell d T]) (tmps : Array Value) (w : World) (b : Nat) (c : Array Value) (hp : tmps.getD d undef = .pointer (some ⟨b, 0, none⟩)) (hl : ldA w (.pointer (some ⟨b, 0, none⟩)) n = some c) :
    (results fn tmps).run P w = .ok (.agg c) w := by
  have hp' : tmps[d]?.getD undef = .pointer (some ⟨b, 0, none⟩) := by simpa using hp
  simp [results, h, hp', asAddr, run_loadVar_agg hA hS w b 0 c hl]
end

def headIs (l : List UInt8) (tag n : Nat) : Bool := decide (l.length = n) && decide (bt l 0 = (tag : Int))

set_option maxHeartbeats 1000000 in
theorem isOf_any (v : Value) (l : List UInt8) (tag n : Nat) (hn : 0 < n) (w : World) (h : SlB w v l) :
    Calls Try.prog 22 #[v, .int .u8 (tag : Int), .int .i64 (n : Int)] w fun e w' => e = .returned (.bool (headIs l tag n)) ∧ w' = w := by
  obtain ⟨p, cap, rfl, hcap, hx⟩ := h
  have HH : Hid (headIs l tag n = (decide (l.length = n) && decide (bt l 0 = (tag : Int)))) := rfl
  generalize headIs l tag n = B at *
  by_cases hl : l.length = n
  · obtain ⟨b, off, rfl, hb, hx⟩ := hx.resolve_left (fun e => by rw [e] at hl; simp at hl; omega)
    have hc := hx 0 (by omega)
    rw [Nat.add_zero] at hc
    have i1 : (0 : Int) < (l.length : Int) := by omega
    have e1 : ((l.length : Int) == (n : Int)) = true := by simp; omega
    have bb := bt_bd l 0
    have e2 : (bt l 0 == (tag : Int)) = decide (bt l 0 = (tag : Int)) := rfl
    have e3 : B = decide (bt l 0 = (tag : Int)) := by rw [HH.out]; simp [hl]
    have HE := Lib.hid e3; clear e3 hx hl HH
    go_enter Try.func22, Try.ntmps22
    go_wp2_with fail
    go_ret
    exact ⟨by rw [HE.out]; rfl, rfl⟩
  · have e1 : ((l.length : Int) == (n : Int)) = false := by simp; omega
    have e3 : B = false := by rw [HH.out]; simp [hl]
    have HE := Lib.hid e3; clear e3 hx hl HH
    go_enter Try.func22, Try.ntmps22
    go_wp2_with fail
    go_ret
    exact ⟨by rw [HE.out]; rfl, rfl⟩
/-- What is taken off bytes: a value, and what is behind it. -/
def TookIs (x v : Value) (l l' : List UInt8) (w : World) (e : Ending) (w' : World) : Prop := ∃ vr, e = .returned (.tuple #[x, vr]) ∧ (∀ W, SlB W v l → SlB W vr l') ∧ Below w.heap.size w w'
theorem cutTB_at (b off len cap n : Nat) (h : n ≤ cap) (hn : 0 < n) : cutTB (.slice (some ⟨b, off, none⟩) len cap) (.int .i64 (n : Int)) = some (.slice (some ⟨b, off, none⟩) n cap) := by
  show (if 0 ≤ (n : Int) ∧ (n : Int) ≤ (cap : Int) then some (sliced (some ⟨b, off, none⟩) 0 (n : Int).toNat cap 1) else none) = _
  rw [if_pos (by omega), Int.toNat_natCast]
  unfold sliced
  rw [if_neg (by omega)]
  simp [Addr.add]

theorem or_step (l : List UInt8) (k : Nat) (hk : k < l.length) (h8 : k < 8) : bits .or .u64 (IntKind.u64.wrap (((natOf (l.take k) : Nat) : Int) * 256)) (bt l k) = ((natOf (l.take (k + 1)) : Nat) : Int) := by
  have h1 := natOf_lt (l.take k)
  have h2 : (l.take k).length ≤ 7 := by rw [List.length_take]; omega
  have h3 := Nat.pow_le_pow_right (show 0 < 256 by omega) h2
  have h4 : (256 : Nat) ^ 7 = 72057594037927936 := by decide
  have bb := bt_bd l k
  rw [natOf_take l k hk, wraps_u64 _ (by omega) (by omega)]
  have e : ((l[k].toNat : Nat) : Int) = bt l k := by unfold bt; rw [getD_in l hk]
  have hj := bits_join .u64 64 (by decide) wraps_u64 8 (((natOf (l.take k) : Nat) : Int) * 256) (bt l k) (by omega) (by omega) (by omega) (by omega) (by omega) (by omega)
  rw [hj]
  clear hj
  omega

set_option maxRecDepth 100000 in
set_option maxHeartbeats 1000000 in
theorem takeNumber_any (v : Value) (l : List UInt8) (hl : 8 ≤ l.length) (w : World) (h : SlB w v l) :
    Calls Try.prog 24 #[v] w (TookIs (num (unnum l)) v l (l.drop 8) w) := by
  obtain ⟨b, off, cap, rfl, hcap, hb, hx⟩ := slB_ne h (by omega)
  clear h
  have HX := Lib.hid hx; clear hx
  have hc8 : cutTB (.slice (some ⟨b, off, none⟩) l.length cap) (.int .i64 8) = some (.slice (some ⟨b, off, none⟩) 8 cap) := cutTB_at b off l.length cap 8 (by omega) (by omega)
  obtain ⟨vr, hvr, hsr⟩ := cut_fromB (some ⟨b, off, none⟩) cap l 8 hl hcap
  have HR := Lib.hid hsr; clear hsr
  replace hvr : cutFB (.slice (some ⟨b, off, none⟩) l.length cap) (.int .i64 8) = some vr := hvr
  have HN : Hid (num (unnum l) = .int .u64 ((natOf (l.take 8) : Nat) : Int)) := by show _ = _; rw [num, unnum_toNat]
  generalize num (unnum l) = R at *
  go_enter Try.func24, Try.ntmps24
  go_wp2_with fail
  go_loopw [4, 10] (fun n i wr => ∃ k : Nat, k ≤ 8 ∧ i = .int .i64 k ∧ n = .int .u64 ((natOf (l.take k) : Nat) : Int) ∧ wr = w) (fun _ i _ => 8 - (intOf i).toNat)
  case atStart => exact ⟨0, by omega, rfl, rfl, rfl⟩
  case round =>
    obtain ⟨k, hk, rfl, rfl, rfl⟩ := hrel
    by_cases hlt : k < 8
    · have i0 : (0 : Int) ≤ (k : Int) := by omega
      have i1 : (k : Int) < 8 := by omega
      have hc := HX.out k (by omega)
      have bb := bt_bd l k
      have HOR : Hid (bits .or .u64 (IntKind.u64.wrap (((natOf (l.take k) : Nat) : Int) * 256)) (bt l k) = ((natOf (l.take (k + 1)) : Nat) : Int)) := or_step l k (by omega) hlt
      go_wp2_with fail
      refine ⟨⟨k + 1, by omega, by go_num, by rw [HOR.out], trivial⟩, by simp [intOf]; omega⟩
    · obtain rfl : k = 8 := by omega
      go_wp2_with fail
      go_quiet (fail)
      go_wp2_with fail
      go_ret2
      exact ⟨_, by rw [HN.out]; rfl, HR.out, belowD (Below.refl _ _) _⟩
theorem splice_root (r : Rt) (l : List UInt8) (h : 32 ≤ l.length) : (splice (rc r).toList 0 (b8 (l.take 32))).toArray = rc (rtOf l) := by
  have hl : (b8 (l.take 32)).length = 32 := by rw [b8_length, List.length_take]; omega
  unfold splice
  rw [List.take_zero, List.nil_append, List.drop_of_length_le (by rw [hl, rc_len]; omega), List.append_nil, ← put_rtOf l h, ← rc_b8]

set_option maxRecDepth 100000 in
set_option maxHeartbeats 1000000 in
theorem takeRoot_any (v : Value) (l : List UInt8) (hl : 32 ≤ l.length) (w : World) (h : SlB w v l) :
    Calls Try.prog 23 #[v] w (TookIs (.agg (rc (rtOf l))) v l (l.drop 32) w) := by
  obtain ⟨b, off, cap, rfl, hcap, hb, hx⟩ := slB_ne h (by omega)
  clear h
  have HX := Lib.hid hx; clear hx
  obtain ⟨vr, hvr, hsr⟩ := cut_fromB (some ⟨b, off, none⟩) cap l 32 hl hcap
  have HR := Lib.hid hsr; clear hsr
  replace hvr : cutFB (.slice (some ⟨b, off, none⟩) l.length cap) (.int .i64 32) = some vr := hvr
  have HG0 : Hid (((w.alloc (.cells (rc zr) 23)).alloc (.cells (rc zr) 23)).heap[w.heap.size + 1]? = some (.cells (rc zr).toList.toArray 23 (0, 0))) := heap_alloc2_new w _ _
  have HSRC : Hid (∀ j u, (b8 (l.take 32))[j]? = some u → ((w.alloc (.cells (rc zr) 23)).alloc (.cells (rc zr) 23)).cell? ((⟨b, off, none⟩ : Addr).add j) = some u) := by
    intro j u hu
    have hj : j < 32 := by
      have := (List.getElem?_eq_some_iff.1 hu).1
      rw [b8_length, List.length_take] at this
      omega
    rw [b8_get _ j (by rw [List.length_take]; omega), bt_take l 32 j hj] at hu
    rw [Addr.add_mid, World.cell?_alloc_lt _ _ _ (by simp; omega), World.cell?_alloc_lt _ _ _ hb, HX.out j (by omega)]
    exact hu
  have hlen : (b8 (l.take 32)).length = 32 := by rw [b8_length, List.length_take]; omega
  have HL := Lib.hid hlen
  clear hlen
  have HW : Hid (Below (w.heap.size + 1) (w.alloc (.cells (rc zr) 23)) ((w.alloc (.cells (rc zr) 23)).alloc (.cells (rc zr) 23))) := (Below.refl _ _).alloc (by simp) _
  go_enter Try.func23, Try.ntmps23
  go_wp2_with (refine wpList_copy_splice rfl (.tmp 6) (.tmp 7) 31 31 rfl 5 Try.underlying31 Try.sizeByte _ _ _ _ _ _ rfl rfl (w.heap.size + 1) 0 (rc zr).toList 23 HG0.out (b8 (l.take 32)) (by rw [HL.out]; show 32 = min l.length 32; omega) (fun _ => ⟨rfl, _, rfl, HSRC.out⟩) (by rw [HL.out, rc_len]; omega) (b8_one _) (w.heap.size + 1) _ HW.out (Nat.le_refl _) ?_
               intro w2 hg2 hb2)
  have HB2 := Lib.hid hb2
  have h1 : w2.heap[w.heap.size + 1]? = some (.cells (rc (rtOf l)) 23 (0, 0)) := by have := hg2.out; rwa [splice_root zr l hl] at this
  have h0 : w2.heap[w.heap.size]? = some (.cells (rc zr) 23 (0, 0)) := by rw [hb2.block _ (by omega)]; exact heap_alloc_last w _
  have hr : ldA w2 (.pointer (some ⟨w.heap.size + 1, 0, none⟩)) 32 = some (rc (rtOf l)) := ldA_block h1 (rc_size _)
  have hwr : wrA w2 (.pointer (some ⟨w.heap.size, 0, none⟩)) 32 = true := wrA_block h0 (rc_size _)
  have HWR := Lib.hid hwr
  clear h1 h0 hg2 hb2
  rw [HL.out]
  go_region
  go_wp2_with fail
  have B : Below w.heap.size w (stA w2.drew (.pointer (some ⟨w.heap.size, 0, none⟩)) (.agg (rc (rtOf l)))) :=
    below_stA ((((Below.refl w.heap.size w).alloc (Nat.le_refl _) _).trans (HB2.out.mono (Nat.le_succ _))).drew) (Nat.le_refl _)
  exact bodyPost_ret (results_agg2 Try.isAgg23 Try.sizeOf23 _ 2 3 rfl _ _ _ (rc (rtOf l)) vr rfl rfl (ldA_stA_same (by rw [wrA_drew]; exact HWR.out) (rc_size _))) rfl ⟨vr, rfl, HR.out, B⟩

set_option maxRecDepth 100000 in
set_option maxHeartbeats 1000000 in
theorem takeCheck_any (v : Value) (l : List UInt8) (hl : 40 ≤ l.length) (w : World) (h : SlB w v l) :
    Calls Try.prog 27 #[v] w (TookIs (.agg (cc (getC l))) v l (l.drop 40) w) := by
  have HS := Lib.hid h
  clear h
  have b0 : Below w.heap.size w ((w.alloc (.cells (cc zc) 28)).alloc (.cells (cc zc) 28)) := ((Below.refl w.heap.size w).alloc (Nat.le_refl _) _).alloc (by simp) _
  have HB0 := Lib.hid b0; clear b0
  go_enter Try.func27, Try.ntmps27
  go_wp2_with fail
  refine (takeNumber_any v l (by omega) _ (slB_keep HB0.out HS.out)).mono ?_
  rintro e w1 ⟨v1, rfl, hs1, hb1⟩
  have g1 : w1.heap[w.heap.size + 1]? = some (.cells (cc zc) 28 (0, 0)) := by rw [hb1.block _ (by simp)]; exact heap_alloc2_new w _ _
  have g0 : w1.heap[w.heap.size]? = some (.cells (cc zc) 28 (0, 0)) := by rw [hb1.block _ (by simp; omega)]; exact heap_alloc2_old w _ _
  have c1 : w1.cell? ⟨w.heap.size + 1, 0, none⟩ = some (num zc.epoch) := ck_epoch g1
  have f1 : w1.frozen? ⟨w.heap.size + 1, 0, none⟩ = false := frozen_of_row _ _ _ _ _ g1
  have HB1 := Lib.hid (belowT HB0.out hb1)
  have HS1 := Lib.hid (hs1 _ HS.out)
  have HT1 := Lib.hid hs1
  have HG1 := Lib.hid g1
  have HG0 := Lib.hid g0
  clear hs1 hb1 g1 g0
  have HB1' : Hid (Below w.heap.size w (w1.setCell ⟨w.heap.size + 1, 0, none⟩ (num (unnum l)))) := HB1.out.setCell (by show w.heap.size ≤ w.heap.size + 1; omega) _
  have HG1' : Hid ((w1.setCell ⟨w.heap.size + 1, 0, none⟩ (num (unnum l))).heap[w.heap.size + 1]? = some (.cells (cc ⟨unnum l, zr⟩) 28 (0, 0))) := by
    show _ = _
    rw [heap_setCell_same HG1.out, setIfInBounds_seg (by rw [cc_size]; omega), cc_epoch]
    rfl
  have HG0' : Hid ((w1.setCell ⟨w.heap.size + 1, 0, none⟩ (num (unnum l))).heap[w.heap.size]? = some (.cells (cc zc) 28 (0, 0))) := by
    show _ = _
    rw [Below.heap_setCell _ _ _ _ (by show w.heap.size ≠ w.heap.size + 1; omega)]; exact HG0.out
  go_wp2_with fail
  refine (takeRoot_any v1 (l.drop 8) (by rw [List.length_drop]; omega) _ (slB_keep HB1'.out HS1.out)).mono ?_
  rintro e w2 ⟨v2, rfl, hs2, hb2⟩
  have hz1 : w.heap.size + 1 < (w1.setCell ⟨w.heap.size + 1, 0, none⟩ (num (unnum l))).heap.size := (Array.getElem?_eq_some_iff.1 HG1'.out).1
  have g1 : w2.heap[w.heap.size + 1]? = some (.cells (cc ⟨unnum l, zr⟩) 28 (0, 0)) := by rw [hb2.block _ hz1]; exact HG1'.out
  have g0 : w2.heap[w.heap.size]? = some (.cells (cc zc) 28 (0, 0)) := by rw [hb2.block _ (by omega)]; exact HG0'.out
  have HT2 := Lib.hid hs2
  have HB2 := Lib.hid (belowT HB1'.out hb2)
  have wr2 : wrA w2 (.pointer (some ⟨w.heap.size + 1, 1, none⟩)) 32 = true := wrA_mid g1 (by rw [cc_size]; omega)
  have g1' : (stA w2 (.pointer (some ⟨w.heap.size + 1, 1, none⟩)) (.agg (rc (rtOf (l.drop 8))))).heap[w.heap.size + 1]? = some (.cells (cc (getC l)) 28 (0, 0)) := by
    rw [heap_stA_same g1 (by rw [cc_size, rc_size]; omega), cc_root]; rfl
  have g0' : (stA w2 (.pointer (some ⟨w.heap.size + 1, 1, none⟩)) (.agg (rc (rtOf (l.drop 8))))).heap[w.heap.size]? = some (.cells (cc zc) 28 (0, 0)) := by
    rw [heap_stA (by omega)]; exact g0
  have ld3 : ldA (stA w2 (.pointer (some ⟨w.heap.size + 1, 1, none⟩)) (.agg (rc (rtOf (l.drop 8))))) (.pointer (some ⟨w.heap.size + 1, 0, none⟩)) 33 = some (cc (getC l)) := ldA_block g1' (cc_size _)
  have wr3 : wrA (stA w2 (.pointer (some ⟨w.heap.size + 1, 1, none⟩)) (.agg (rc (rtOf (l.drop 8))))) (.pointer (some ⟨w.heap.size, 0, none⟩)) 33 = true := wrA_block g0' (cc_size _)
  have HW3 := Lib.hid wr3
  have HB3 : Hid (Below w.heap.size w (stA w2 (.pointer (some ⟨w.heap.size + 1, 1, none⟩)) (.agg (rc (rtOf (l.drop 8)))))) := below_stA HB2.out (by omega)
  clear hs2 hb2 g1 g0 g1' g0' c1 f1 hz1
  go_wp2_with fail
  exact bodyPost_ret (results_agg2 Try.isAgg28 Try.sizeOf28 _ 2 3 rfl _ _ _ (cc (getC l)) v2 rfl rfl (ldA_stA_same HW3.out (cc_size _))) rfl ⟨v2, rfl, fun W hW => by have := HT2.out W (HT1.out W hW); rwa [List.drop_drop] at this, below_stA HB3.out (Nat.le_refl _)⟩
end Go.Proofs.Ytjdpndclgmdahaa
