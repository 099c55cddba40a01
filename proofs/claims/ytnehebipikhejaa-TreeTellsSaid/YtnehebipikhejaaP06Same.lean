/-
  Package tree: Same, walked.
-/
import Derived.Test.YtnehebipikhejaaP06Equal
namespace Go.Proofs.Ytnehebipikhejaa
open Go.RowKit

set_option maxRecDepth 100000 in
set_option maxHeartbeats 1000000 in
theorem treeSame (s t : SlV) (l k : List Nd) (w : World) (h : SlE Ene w (sv s) l) (h' : SlE Ene w (sv t) k) (hn : l.length ≤ 1000) :
    Calls Try.prog 25 #[.agg (tr ⟨s⟩), .agg (tr ⟨t⟩)] w fun e w' => e = .returned (.bool (decide (l = k))) ∧ Below w.heap.size w w' := by
  have HC := Lib.hid (fun W (g : Below w.heap.size w W) => equalNe_any s t l k W (slE_keep g h) (slE_keep g h') hn)
  have HB : Hid (Below w.heap.size w ((w.alloc (.cells (tr ⟨s⟩) 24)).alloc (.cells (tr ⟨t⟩) 24))) := belowT below1 below1
  obtain ⟨r, hr⟩ : ∃ r, r = decide (l = k) := ⟨_, rfl⟩
  rw [← hr] at HC ⊢
  clear h h' hn hr
  obtain ⟨p, n, cp⟩ := s
  obtain ⟨q, m, cq⟩ := t
  go_enter Try.func25, Try.ntmps25
  go_wp2_with fail
  refine (HC.out _ HB.out).mono ?_
  rintro e w1 ⟨rfl, g1⟩
  have G1 := Lib.hid g1
  clear g1
  go_wp2_with fail
  go_ret
  exact ⟨rfl, belowT HB.out G1.out⟩
end Go.Proofs.Ytnehebipikhejaa
