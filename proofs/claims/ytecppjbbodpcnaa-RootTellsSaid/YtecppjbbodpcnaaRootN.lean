/-
  The document's own answers for layer 2: Less, value, Text, walked.
-/
import Derived.Test.YtecppjbbodpcnaaRootM
import Derived.Test.YtecppjbbodpcnaaRootJ
namespace Go.Proofs.Ytecppjbbodpcnaa
open Go.RowKit

set_option maxHeartbeats 1000000 in
theorem refLess_any (a b : Rt) (w : World) :
    Calls Try.prog 12 #[.agg (rc a), .agg (rc b)] w fun e w' => e = .returned (.bool (lessR a b)) ∧ Below w.heap.size w w' := by
  have hsa := rc_size a
  have hsb := rc_size b
  go_enter Try.func12, Try.ntmps12
  go_wp2
  go_loopw [5] (fun i wr => ∃ k n : Nat, k ≤ 32 ∧ i = .int .i64 k ∧ lessR a b = lessFrom a b k ∧ wr = ((w.alloc (.cells (rc a) 23)).alloc (.cells (rc b) 23)).drewN n) (fun i _ => 32 - (intOf i).toNat)
  case atStart => exact ⟨0, 0, by omega, rfl, rfl, rfl⟩
  case round =>
    obtain ⟨k, n, hk, rfl, hl, rfl⟩ := hrel
    have HL := Lib.hid hl; clear hl
    by_cases hlt : k < 32
    · have i0 : (0 : Int) ≤ (k : Int) := by omega
      have i1 : (k : Int) < 32 := by omega
      by_cases hs : at8 a k = at8 b k
      · have e : (at8 a k != at8 b k) = false := by simp [hs]
        have HE := Lib.hid (lessFrom_same a b k hlt hs); clear hs
        go_wp2
        go_quiet (fail)
        go_wp2
        go_roundw
        case rel => exact ⟨k + 1, _, by omega, by go_num, by rw [HL.out, HE.out], rfl⟩
        case measure => simp [intOf]; omega
      · have e : (at8 a k != at8 b k) = true := by simp [hs]
        have HE := Lib.hid (lessFrom_other a b k hlt hs); clear hs
        go_wp2
        go_quiet (fail)
        go_wp2
        go_quiet (fail)
        go_wp2
        go_ret
        exact ⟨by rw [HL.out, HE.out]; rfl, belowD (belowD (belowD (belowA (belowA (Below.refl _ _) _) _) _) _) _⟩
    · obtain rfl : k = 32 := by omega
      go_wp2
      go_ret
      exact ⟨by rw [HL.out, lessFrom_end]; rfl, belowD (belowA (belowA (Below.refl _ _) _) _) _⟩

/-- A digit's value; -1: it is none. -/
def vI (c : UInt8) : Int := match vOf c with | some p => (p : Int) | none => -1
theorem vI_cases : ∀ n : Fin 256, vI (UInt8.ofNat n.val) = if 48 ≤ n.val ∧ n.val ≤ 57 then (n.val : Int) - 48 else if 97 ≤ n.val ∧ n.val ≤ 102 then (n.val : Int) - 87 else -1 := by decide +kernel
theorem vI_eq (c : UInt8) : vI c = if 48 ≤ c.toNat ∧ c.toNat ≤ 57 then (c.toNat : Int) - 48 else if 97 ≤ c.toNat ∧ c.toNat ≤ 102 then (c.toNat : Int) - 87 else -1 := by
  have := vI_cases ⟨c.toNat, c.toNat_lt⟩
  simpa using this
set_option maxHeartbeats 1000000 in
theorem value_any (c : UInt8) (w : World) :
    Calls Try.prog 20 #[.int .u8 (c.toNat : Int)] w fun e w' => e = .returned (.int .i64 (vI c)) ∧ w = w' := by
  have hc := c.toNat_lt
  have hv := vI_eq c
  have HV := Lib.hid hv; clear hv
  generalize hn : (c.toNat : Int) = n
  have h0 : 0 ≤ n := by omega
  have h1 : n < 256 := by omega
  by_cases a1 : 48 ≤ n ∧ n ≤ 57
  · have HR : Hid (vI c = n - 48) := by rw [HV.out, if_pos (by omega)]; show _ = _; omega
    obtain ⟨b1, b2⟩ := a1
    clear HV hn
    go_enter Try.func20, Try.ntmps20
    go_wp2
    go_ret
    exact ⟨by rw [HR.out]; rfl, rfl⟩
  · by_cases a2 : 97 ≤ n ∧ n ≤ 102
    · have HR : Hid (vI c = n - 97 + 10) := by rw [HV.out, if_neg (by omega), if_pos (by omega)]; show _ = _; omega
      obtain ⟨b1, b2⟩ := a2
      have b3 : ¬ n ≤ 57 := by omega
      have b4 : 48 ≤ n := by omega
      clear HV hn a1
      go_enter Try.func20, Try.ntmps20
      go_wp2
      go_ret
      exact ⟨by rw [HR.out]; rfl, rfl⟩
    · have HR : Hid (vI c = -1) := by rw [HV.out, if_neg (by omega), if_neg (by omega)]; rfl
      have hcase : n < 48 ∨ (48 ≤ n ∧ 57 < n ∧ n < 97) ∨ (48 ≤ n ∧ 57 < n ∧ 97 ≤ n ∧ 102 < n) := by omega
      clear HV hn a1 a2
      rcases hcase with b1 | ⟨b1, b2, b3⟩ | ⟨b1, b2, b3, b4⟩
      all_goals
        go_enter Try.func20, Try.ntmps20
        go_wp2
        go_ret
        exact ⟨by rw [HR.out]; rfl, rfl⟩

theorem sub_digit (x : Int) (h0 : 0 ≤ x) (h1 : x < 16) (w : World) : (Instr.sliceAt 9 (.string ⟨#[48, 49, 50, 51, 52, 53, 54, 55, 56, 57, 97, 98, 99, 100, 101, 102]⟩) (some (.int .i64 x)) (some (.int .i64 (x + 1))) none).run Try.prog w = .ok (.string ⟨#[dg x.toNat]⟩) w := by
  obtain ⟨n, rfl⟩ := Int.eq_ofNat_of_zero_le h0
  have h : n = 0 ∨ n = 1 ∨ n = 2 ∨ n = 3 ∨ n = 4 ∨ n = 5 ∨ n = 6 ∨ n = 7 ∨ n = 8 ∨ n = 9 ∨ n = 10 ∨ n = 11 ∨ n = 12 ∨ n = 13 ∨ n = 14 ∨ n = 15 := by omega
  clear h0 h1
  rcases h with rfl | rfl | rfl | rfl | rfl | rfl | rfl | rfl | rfl | rfl | rfl | rfl | rfl | rfl | rfl | rfl
  all_goals rfl
def txk (r : Rt) (k : Nat) : ByteArray := ⟨(textL (r.toList.take k)).toArray⟩
theorem txk_size (r : Rt) (k : Nat) (hk : k ≤ 32) : (txk r k).size = 2 * k := by
  show (textL (r.toList.take k)).toArray.size = _
  rw [List.size_toArray, textL_length, List.length_take]
  simp; omega

def txm (r : Rt) (k : Nat) : ByteArray := ⟨(textL (r.toList.take k) ++ [dg (at8 r k / 16).toNat]).toArray⟩
theorem ba_append (x y : List UInt8) : (⟨x.toArray⟩ : ByteArray) ++ ⟨y.toArray⟩ = ⟨(x ++ y).toArray⟩ := by
  apply ByteArray.ext
  rw [ByteArray.data_append]
  simp
theorem add_one (r : Rt) (k : Nat) (hk : k < 32) (w : World) : (Op.stringOp .add (txk r k) ⟨#[dg (at8 r k / 16).toNat]⟩).run Try.prog w = .ok (.string (txm r k)) w := by
  have h := txk_size r k (by omega)
  rw [run_string_add_sum w _ _ (by rw [h]; show 2 * k + 1 ≤ _; omega)]
  exact congrArg (fun b => Result.ok (Value.string b) w) (ba_append _ [dg (at8 r k / 16).toNat])
theorem add_two (r : Rt) (k : Nat) (hk : k < 32) (w : World) : (Op.stringOp .add (txm r k) ⟨#[dg (at8 r k % 16).toNat]⟩).run Try.prog w = .ok (.string (txk r (k + 1))) w := by
  have h : (txm r k).size = 2 * k + 1 := by
    have h := txk_size r k (by omega)
    show (textL (r.toList.take k) ++ [dg (at8 r k / 16).toNat]).toArray.size = _
    have h2 : (textL (r.toList.take k)).toArray.size = 2 * k := h
    simp at h2 ⊢
    omega
  rw [run_string_add_sum w _ _ (by rw [h]; show 2 * k + 1 + 1 ≤ _; omega)]
  have e : (txm r k ++ ⟨#[dg (at8 r k % 16).toNat]⟩ : ByteArray) = txk r (k + 1) := by
    refine (ba_append (textL (r.toList.take k) ++ [dg (at8 r k / 16).toNat]) [dg (at8 r k % 16).toNat]).trans ?_
    unfold txk
    have e1 : ∀ n : Nat, ((n : Int) / 16).toNat = n / 16 := fun n => by omega
    have e2 : ∀ n : Nat, ((n : Int) % 16).toNat = n % 16 := fun n => by omega
    rw [List.take_succ_eq_append_getElem (by simp; exact hk), at8_get r k hk]
    simp [textL, dig2, e1, e2]
  rw [e]
set_option maxRecDepth 100000 in
set_option maxHeartbeats 1000000 in
theorem refText_any (r : Rt) (w : World) :
    Calls Try.prog 18 #[.agg (rc r)] w fun e w' => e = .returned (.string (tx r)) ∧ Below w.heap.size w w' := by
  have hsa := rc_size r
  go_enter Try.func18, Try.ntmps18
  go_wp2
  go_loopw [4, 5] (fun s i wr => ∃ k n : Nat, k ≤ 32 ∧ i = .int .i64 k ∧ s = .string (txk r k) ∧ wr = (w.alloc (.cells (rc r) 23)).drewN n) (fun _ i _ => 32 - (intOf i).toNat)
  case atStart => exact ⟨0, 0, by omega, rfl, rfl, rfl⟩
  case round =>
    obtain ⟨k, n, hk, rfl, rfl, rfl⟩ := hrel
    by_cases hlt : k < 32
    · have i0 : (0 : Int) ≤ (k : Int) := by omega
      have i1 : (k : Int) < 32 := by omega
      have hb := at8_bd r k
      have s1 := fun w => sub_digit (at8 r k / 16) (by omega) (by omega) w
      have s2 := fun w => sub_digit (at8 r k % 16) (by omega) (by omega) w
      have x1 : IntKind.i64.wrap (at8 r k / 16 + 1) = at8 r k / 16 + 1 := IntWalk.i64_in _ (by omega)
      have x2 : IntKind.i64.wrap (at8 r k % 16 + 1) = at8 r k % 16 + 1 := IntWalk.i64_in _ (by omega)
      have y1 := fun w => add_one r k hlt w
      have y2 := fun w => add_two r k hlt w
      go_wp2
      go_quiet (fail)
      go_wp2
      go_roundw
      case rel => exact ⟨k + 1, _, by omega, by go_num, rfl, rfl⟩
      case measure => simp [intOf]; omega
    · obtain rfl : k = 32 := by omega
      have e : txk r 32 = tx r := by
        unfold txk tx
        rw [List.take_of_length_le (by simp)]
      rw [e]
      go_wp2
      go_ret
      exact ⟨rfl, belowD (belowA (Below.refl _ _) _) _⟩
end Go.Proofs.Ytecppjbbodpcnaa
