/-
  Package late: Same, walked.
-/
import Derived.Test.YtljehgohcchocaaEqualA
namespace Go.Proofs.Ytljehgohcchocaa
open Go.RowKit
set_option maxRecDepth 100000

set_option maxRecDepth 100000 in
set_option maxHeartbeats 1000000 in
theorem latSameP (v u : Value) (l k : List Aa) (w : World) (h : SlE Eaa w v l) (h' : SlE Eaa w u k) (hn : l.length ≤ 1000) :
    Calls Try.prog 18 #[v, u] w fun e w' => e = .returned (.bool (decide (l = k))) ∧ Below w.heap.size w w' := by
  have HE := Lib.hid (equalAa v u l k w h h' hn)
  obtain ⟨r, hr⟩ : ∃ r, r = decide (l = k) := ⟨_, rfl⟩
  rw [← hr] at HE ⊢
  clear h h' hn hr
  go_enter Try.func18, Try.ntmps18
  go_wp2_with fail
  refine HE.out.mono ?_
  rintro e w1 ⟨rfl, g⟩
  go_wp2_with fail
  go_ret
  exact ⟨rfl, g⟩
end Go.Proofs.Ytljehgohcchocaa
