/-
  The law WireBack, walked.
-/
import Derived.Test.YtjdpndclgmdahaaWireLB
import Derived.Test.YtjdpndclgmdahaaWireLA
import Derived.Test.YtjdpndclgmdahaaWireLN
namespace Go.Proofs.Ytjdpndclgmdahaa
open Go.RowKit

set_option maxRecDepth 100000 in
set_option maxHeartbeats 1000000 in
theorem wireBack_long (x : Blk) (y : At) (p : Option Addr) (n cap : Nat) (w : World) (h : 300 < n) :
    Calls Try.prog 4 #[.agg (bc x), .agg (ac y), .slice p n cap] w fun e w' => e = .returned (.bool true) ∧ Below w.heap.size w w' := by
  have z1 : decide ((300 : Int) < (n : Int)) = true := by simp; omega
  go_enter Try.func4, Try.ntmps4
  go_wp2_with fail
  refine (awake_any _).mono ?_
  rintro e w0 ⟨rfl, g0⟩
  go_wp2_with fail
  go_ret
  exact ⟨rfl, belowT (((Below.refl w.heap.size w).alloc (Nat.le_refl _) _).alloc (by simp) _) g0⟩
theorem wireBack_walk (x : Blk) (y : At) (v : Value) (l : List UInt8) (w : World) (h : SlB w v l) :
    Calls Try.prog 4 #[.agg (bc x), .agg (ac y), v] w fun e w' => e = .returned (.bool true) ∧ Below w.heap.size w w' := by
  have hs := h
  obtain ⟨p, cap, rfl, _⟩ := slB_shape h
  by_cases hl : 300 < l.length
  · exact wireBack_long x y p _ cap w hl
  · have hl' : l.length ≤ 300 := by omega
    have hy : okV y.val = true ∨ y.val < 0 ∨ 65535 < y.val := by
      by_cases h1 : y.val < 0
      · exact .inr (.inl h1)
      · by_cases h2 : 65535 < y.val
        · exact .inr (.inr h2)
        · left; unfold okV; simp; omega
    cases k1 : isB l with
    | true =>
      rcases hy with hy | hy | hy
      · exact wireBack_By x y p cap l w hs hl' hy k1 (not_both k1)
      · exact wireBack_Bl x y p cap l w hs hl' hy k1 (not_both k1)
      · exact wireBack_Bg x y p cap l w hs hl' hy k1 (not_both k1)
    | false =>
      cases k2 : isA l with
      | true =>
        rcases hy with hy | hy | hy
        · exact wireBack_Ay x y p cap l w hs hl' hy k1 k2
        · exact wireBack_Al x y p cap l w hs hl' hy k1 k2
        · exact wireBack_Ag x y p cap l w hs hl' hy k1 k2
      | false =>
        rcases hy with hy | hy | hy
        · exact wireBack_Ny x y p cap l w hs hl' hy k1 k2
        · exact wireBack_Nl x y p cap l w hs hl' hy k1 k2
        · exact wireBack_Ng x y p cap l w hs hl' hy k1 k2
end Go.Proofs.Ytjdpndclgmdahaa
