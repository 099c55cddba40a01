/-
  A row of numbers of the call's own: one put, one read; any program.
-/
import Derived.Test.YtonfmddjlhgglaaNumT
import Derived.Laws.OwnMore
import Derived.Deep.AppendLies
namespace Go.Proofs.Ytonfmddjlhgglaa
open Go.RowKit
theorem set_nums (b : List UInt64) (x : UInt64) (h : Nat) : cellsE Enum (b.set h x) = (cellsE Enum b).set h (num x) := by
  induction b generalizing h with
  | nil => rfl
  | cons y b ih => cases h with
    | zero => rfl
    | succ h => show num y :: cellsE Enum (b.set h x) = _; rw [ih]; rfl
theorem ownN_put {w : World} {base g n cap : Nat} {b : List UInt64} (h : OwnE Enum w base (.slice (some ⟨g, 0, none⟩) n cap) b) (hn : b.length = n) (k : Nat) {x : Nat} (hx : x < 18446744073709551616) : OwnE Enum (w.setCell ⟨g, k, none⟩ (.int .u64 (x : Int))) base (.slice (some ⟨g, 0, none⟩) n cap) (b.set k (UInt64.ofNat x)) := by
  subst hn
  unfold OwnE at h ⊢
  rw [set_nums, List.length_set, num_nat hx]
  exact (World.ownsRow.stored h k (.int .u64 (x : Int))).1
theorem ownN_frozen {w : World} {base g n cap : Nat} {b : List UInt64} (h : OwnE Enum w base (.slice (some ⟨g, 0, none⟩) n cap) b) (hn : b.length = n) (k : Nat) : w.frozen? ⟨g, k, none⟩ = false := by
  subst hn; exact World.ownsRow.frozenAt h k
theorem ownN_cell {w : World} {base g n cap : Nat} {b : List UInt64} (h : OwnE Enum w base (.slice (some ⟨g, 0, none⟩) n cap) b) {k : Nat} (hk : k < b.length) : w.cell? ⟨g, k, none⟩ = some (.int .u64 (fn b k : Int)) := by
  obtain ⟨b1, o1, e, _, x⟩ := nums_ptr (ownE_slE h) (by omega)
  injection e with e
  injection e with e1 e2
  subst e1 e2
  have := nums_cell x hk
  rwa [Nat.zero_add] at this
theorem ownN_form {w : World} {base : Nat} {v : Value} {b : List UInt64} {n : Nat} (h : OwnE Enum w base v b) (hn : b.length = n) (h0 : 0 < n) : ∃ g cap, v = .slice (some ⟨g, 0, none⟩) n cap ∧ base ≤ g := by
  subst hn
  rcases h.2 with ⟨_, e⟩ | ⟨g, cap, cur, e, hb, _⟩
  · omega
  · exact ⟨g, cap, e, hb⟩
end Go.Proofs.Ytonfmddjlhgglaa
