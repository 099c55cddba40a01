/-
  A slice's value as plain data; for every program.
-/
import Derived.Test.YtljehgohcchocaaEl
namespace Go.Proofs.Ytljehgohcchocaa
open Go.RowKit
set_option maxRecDepth 100000
structure SlV where
  p : Option Addr
  len : Nat
  cap : Nat
def sv (s : SlV) : Value := .slice s.p s.len s.cap
@[go_sem] theorem sv_mk (p : Option Addr) (n c : Nat) : sv ⟨p, n, c⟩ = .slice p n c := rfl
theorem slE_sv {α : Type} {E : Lie α} {w : World} {v : Value} {l : List α} (h : SlE E w v l) : ∃ s : SlV, v = sv s ∧ s.len = l.length := by
  obtain ⟨p, cap, e, _⟩ := slE_shape h
  exact ⟨⟨p, l.length, cap⟩, e, rfl⟩
end Go.Proofs.Ytljehgohcchocaa
