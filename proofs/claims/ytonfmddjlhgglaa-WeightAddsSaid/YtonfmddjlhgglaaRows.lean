/-
  No cell of these rows narrows 'for every input' (looked for: loops, veiled, ifaces, maps, wideKeys, modest, calm, conditions, laid).
  DERIVED. THE GIVEN ROWS OF THIS SEAT. 6 by the template 'for every input the law returns true; each argument reads behind the call as it read before'; 0 by the template 'total and deterministic' (their statements: YtonfmddjlhgglaaTotals.lean).
  GIVEN WITH THE SEED: the statements are not yours to turn. If you find one false, say at which input.
  Laid BY PROGRAM, IN A SANDBOX (cutbox-rows.mjs): the forced cells as the released guide's own fill.sh prints them over the translation 6f74c38f0a376e7e… (all of the seat's roots in one cut). By AI agents, Wed Nov 11 2026. No macro, syntax, notation, axiom, sorry.
-/
import Derived.Test.YtonfmddjlhgglaaChecked
import GoSem.Claim
import GoSem.ClaimJoined
import GoSem.ClaimMapViews
import Derived.JoinedTies
import Derived.KernelRfl
namespace Go.Proofs.Ytonfmddjlhgglaa
/- THE CELL 'sum', in the pinned program and in every row, IS THE sha256 OF THE DUMP (.gsa) THAT YtonfmddjlhgglaaProg.lean LOADS. Nothing in Lean hashes anything: it is a label: what it is worth is what the hold of that sum in a sandbox is worth. -/
noncomputable def Try.pinned : Pinned := { name := "ytonfmddjlhgglaa", sum := "6f74c38f0a376e7e70b3282010b629e8169d64009eaf269d476c4c4e1f5eccaf", checked := Try.checked }
namespace Rows
def none {H : Type} : Left H := { results := [], args := [] }

/-- 'areopaguslaw08.WeightTells': WHATEVER THE INPUT: true; the input reads as it did. -/
def weightTellsSpec : ChangeSpec := { name := "weightTells", fn := fun _ => fun
  | [d1, d2, d3, d4] => { results := [.lit (.bool true)], args := [d1, d2, d3, d4] }
  | _ => none }
def weightTellsRow : OpenClaim := { program := "ytonfmddjlhgglaa", sum := "6f74c38f0a376e7e70b3282010b629e8169d64009eaf269d476c4c4e1f5eccaf", func := "areopagus/areopaguslaw08.WeightTells", spec := "weightTells", inPlace := ["math/bits.Add64"], unfollowed := true, recurses := true, plainKeys := false, apart := false }
def WeightTellsSaid : Prop := weightTellsRow.holds Try.pinned (OpenSpec.ofChange weightTellsSpec)

/-- ITS FALSE NEIGHBOUR: 'it returns false'. Refute it at one input. -/
def weightTellsWrong : ChangeSpec := { name := "weightTells", fn := fun _ => fun
  | [d1, d2, d3, d4] => { results := [.lit (.bool false)], args := [d1, d2, d3, d4] }
  | _ => none }
def WeightTellsWrongFalsely : Prop := weightTellsRow.holds Try.pinned (OpenSpec.ofChange weightTellsWrong)

/-- 'areopaguslaw08.WeightPass': WHATEVER THE INPUT: true; the input reads as it did. -/
def weightPassSpec : ChangeSpec := { name := "weightPass", fn := fun _ => fun
  | [d1, d2, d3, d4] => { results := [.lit (.bool true)], args := [d1, d2, d3, d4] }
  | _ => none }
def weightPassRow : OpenClaim := { program := "ytonfmddjlhgglaa", sum := "6f74c38f0a376e7e70b3282010b629e8169d64009eaf269d476c4c4e1f5eccaf", func := "areopagus/areopaguslaw08.WeightPass", spec := "weightPass", inPlace := ["math/bits.Add64"], unfollowed := true, recurses := true, plainKeys := false, apart := false }
def WeightPassSaid : Prop := weightPassRow.holds Try.pinned (OpenSpec.ofChange weightPassSpec)

/-- ITS FALSE NEIGHBOUR: 'it returns false'. Refute it at one input. -/
def weightPassWrong : ChangeSpec := { name := "weightPass", fn := fun _ => fun
  | [d1, d2, d3, d4] => { results := [.lit (.bool false)], args := [d1, d2, d3, d4] }
  | _ => none }
def WeightPassWrongFalsely : Prop := weightPassRow.holds Try.pinned (OpenSpec.ofChange weightPassWrong)

/-- 'areopaguslaw08.WeightNode': WHATEVER THE INPUT: true; the input reads as it did. -/
def weightNodeSpec : ChangeSpec := { name := "weightNode", fn := fun _ => fun
  | [d1, d2, d3] => { results := [.lit (.bool true)], args := [d1, d2, d3] }
  | _ => none }
def weightNodeRow : OpenClaim := { program := "ytonfmddjlhgglaa", sum := "6f74c38f0a376e7e70b3282010b629e8169d64009eaf269d476c4c4e1f5eccaf", func := "areopagus/areopaguslaw08.WeightNode", spec := "weightNode", inPlace := ["math/bits.Add64"], unfollowed := true, recurses := true, plainKeys := false, apart := false }
def WeightNodeSaid : Prop := weightNodeRow.holds Try.pinned (OpenSpec.ofChange weightNodeSpec)

/-- ITS FALSE NEIGHBOUR: 'it returns false'. Refute it at one input. -/
def weightNodeWrong : ChangeSpec := { name := "weightNode", fn := fun _ => fun
  | [d1, d2, d3] => { results := [.lit (.bool false)], args := [d1, d2, d3] }
  | _ => none }
def WeightNodeWrongFalsely : Prop := weightNodeRow.holds Try.pinned (OpenSpec.ofChange weightNodeWrong)

/-- 'areopaguslaw08.WeightBack': WHATEVER THE INPUT: true; the input reads as it did. -/
def weightBackSpec : ChangeSpec := { name := "weightBack", fn := fun _ => fun
  | [d1, d2, d3] => { results := [.lit (.bool true)], args := [d1, d2, d3] }
  | _ => none }
def weightBackRow : OpenClaim := { program := "ytonfmddjlhgglaa", sum := "6f74c38f0a376e7e70b3282010b629e8169d64009eaf269d476c4c4e1f5eccaf", func := "areopagus/areopaguslaw08.WeightBack", spec := "weightBack", inPlace := ["math/bits.Add64"], unfollowed := true, recurses := true, plainKeys := false, apart := false }
def WeightBackSaid : Prop := weightBackRow.holds Try.pinned (OpenSpec.ofChange weightBackSpec)

/-- ITS FALSE NEIGHBOUR: 'it returns false'. Refute it at one input. -/
def weightBackWrong : ChangeSpec := { name := "weightBack", fn := fun _ => fun
  | [d1, d2, d3] => { results := [.lit (.bool false)], args := [d1, d2, d3] }
  | _ => none }
def WeightBackWrongFalsely : Prop := weightBackRow.holds Try.pinned (OpenSpec.ofChange weightBackWrong)

/-- 'areopaguslaw08.WeightAdds': WHATEVER THE INPUT: true; the input reads as it did. -/
def weightAddsSpec : ChangeSpec := { name := "weightAdds", fn := fun _ => fun
  | [d1, d2, d3] => { results := [.lit (.bool true)], args := [d1, d2, d3] }
  | _ => none }
def weightAddsRow : OpenClaim := { program := "ytonfmddjlhgglaa", sum := "6f74c38f0a376e7e70b3282010b629e8169d64009eaf269d476c4c4e1f5eccaf", func := "areopagus/areopaguslaw08.WeightAdds", spec := "weightAdds", inPlace := ["math/bits.Add64"], unfollowed := true, recurses := true, plainKeys := false, apart := false }
def WeightAddsSaid : Prop := weightAddsRow.holds Try.pinned (OpenSpec.ofChange weightAddsSpec)

/-- ITS FALSE NEIGHBOUR: 'it returns false'. Refute it at one input. -/
def weightAddsWrong : ChangeSpec := { name := "weightAdds", fn := fun _ => fun
  | [d1, d2, d3] => { results := [.lit (.bool false)], args := [d1, d2, d3] }
  | _ => none }
def WeightAddsWrongFalsely : Prop := weightAddsRow.holds Try.pinned (OpenSpec.ofChange weightAddsWrong)

/-- 'areopaguslaw08.WeightSteps': WHATEVER THE INPUT: true; the input reads as it did. -/
def weightStepsSpec : ChangeSpec := { name := "weightSteps", fn := fun _ => fun
  | [d1, d2, d3, d4] => { results := [.lit (.bool true)], args := [d1, d2, d3, d4] }
  | _ => none }
def weightStepsRow : OpenClaim := { program := "ytonfmddjlhgglaa", sum := "6f74c38f0a376e7e70b3282010b629e8169d64009eaf269d476c4c4e1f5eccaf", func := "areopagus/areopaguslaw08.WeightSteps", spec := "weightSteps", inPlace := ["math/bits.Add64"], unfollowed := true, recurses := true, plainKeys := false, apart := false }
def WeightStepsSaid : Prop := weightStepsRow.holds Try.pinned (OpenSpec.ofChange weightStepsSpec)

/-- ITS FALSE NEIGHBOUR: 'it returns false'. Refute it at one input. -/
def weightStepsWrong : ChangeSpec := { name := "weightSteps", fn := fun _ => fun
  | [d1, d2, d3, d4] => { results := [.lit (.bool false)], args := [d1, d2, d3, d4] }
  | _ => none }
def WeightStepsWrongFalsely : Prop := weightStepsRow.holds Try.pinned (OpenSpec.ofChange weightStepsWrong)

/- THE SECOND FORM. 'bulk': how many values and letters a reading holds, each counted each time it is reached (what is shared counts as often as it is met; a slice's spare places count too). A statement '..UptoSaid' is the law's where the arguments, and the package variables that the reading takes, are together of bulk at most 1048576: NARROWER than '..Said'. Prove '..Said' where nothing that the law and all that it calls make is longer than what came in: it says more and counts as full. Else prove '..UptoSaid'. A law counts once. -/
mutual
def uptoBulk {H : Type} : DataW H → Nat
  | .lit (.string bytes) => bytes.length + 1
  | .lit _ => 1
  | .nil => 1
  | .ptr d => uptoBulk d + 1
  | .slice elems spare => uptoBulkAll elems + uptoBulkAll spare + 1
  | .agg parts => uptoBulkAll parts + 1
  | .iface _ d => uptoBulk d + 1
  | .map entries => uptoBulkEntries entries + 1
  | .held _ => 1
def uptoBulkAll {H : Type} : List (DataW H) → Nat
  | [] => 0
  | d :: r => uptoBulk d + uptoBulkAll r
def uptoBulkEntries {H : Type} : List (Lit × DataW H) → Nat
  | [] => 0
  | x :: r => uptoBulkEntry x + uptoBulkEntries r
def uptoBulkEntry {H : Type} : Lit × DataW H → Nat
  | (.string bytes, d) => bytes.length + uptoBulk d + 1
  | (_, d) => uptoBulk d + 1
 end
def uptoSmall : (H : Type) → List (DataW H) → Bool := fun _ ds => decide (uptoBulkAll ds ≤ 1048576)
def OpenSpec.upto (s : _root_.Go.ChangeSpec) : _root_.Go.OpenSpec := { _root_.Go.OpenSpec.ofChange s with cond := some uptoSmall }

/-- 'areopaguslaw08.WeightTells', WHERE WHAT IT READS IS OF BULK AT MOST 1048576: true; the input reads as it did. -/
def weightTellsUptoRow : OpenClaim := { program := "ytonfmddjlhgglaa", sum := "6f74c38f0a376e7e70b3282010b629e8169d64009eaf269d476c4c4e1f5eccaf", func := "areopagus/areopaguslaw08.WeightTells", spec := "weightTells", inPlace := ["math/bits.Add64"], unfollowed := true, recurses := true, plainKeys := false, apart := false, narrowed := true }
def WeightTellsUptoSaid : Prop := weightTellsUptoRow.holds Try.pinned (OpenSpec.upto weightTellsSpec)

/-- 'areopaguslaw08.WeightPass', WHERE WHAT IT READS IS OF BULK AT MOST 1048576: true; the input reads as it did. -/
def weightPassUptoRow : OpenClaim := { program := "ytonfmddjlhgglaa", sum := "6f74c38f0a376e7e70b3282010b629e8169d64009eaf269d476c4c4e1f5eccaf", func := "areopagus/areopaguslaw08.WeightPass", spec := "weightPass", inPlace := ["math/bits.Add64"], unfollowed := true, recurses := true, plainKeys := false, apart := false, narrowed := true }
def WeightPassUptoSaid : Prop := weightPassUptoRow.holds Try.pinned (OpenSpec.upto weightPassSpec)

/-- 'areopaguslaw08.WeightNode', WHERE WHAT IT READS IS OF BULK AT MOST 1048576: true; the input reads as it did. -/
def weightNodeUptoRow : OpenClaim := { program := "ytonfmddjlhgglaa", sum := "6f74c38f0a376e7e70b3282010b629e8169d64009eaf269d476c4c4e1f5eccaf", func := "areopagus/areopaguslaw08.WeightNode", spec := "weightNode", inPlace := ["math/bits.Add64"], unfollowed := true, recurses := true, plainKeys := false, apart := false, narrowed := true }
def WeightNodeUptoSaid : Prop := weightNodeUptoRow.holds Try.pinned (OpenSpec.upto weightNodeSpec)

/-- 'areopaguslaw08.WeightBack', WHERE WHAT IT READS IS OF BULK AT MOST 1048576: true; the input reads as it did. -/
def weightBackUptoRow : OpenClaim := { program := "ytonfmddjlhgglaa", sum := "6f74c38f0a376e7e70b3282010b629e8169d64009eaf269d476c4c4e1f5eccaf", func := "areopagus/areopaguslaw08.WeightBack", spec := "weightBack", inPlace := ["math/bits.Add64"], unfollowed := true, recurses := true, plainKeys := false, apart := false, narrowed := true }
def WeightBackUptoSaid : Prop := weightBackUptoRow.holds Try.pinned (OpenSpec.upto weightBackSpec)

/-- 'areopaguslaw08.WeightAdds', WHERE WHAT IT READS IS OF BULK AT MOST 1048576: true; the input reads as it did. -/
def weightAddsUptoRow : OpenClaim := { program := "ytonfmddjlhgglaa", sum := "6f74c38f0a376e7e70b3282010b629e8169d64009eaf269d476c4c4e1f5eccaf", func := "areopagus/areopaguslaw08.WeightAdds", spec := "weightAdds", inPlace := ["math/bits.Add64"], unfollowed := true, recurses := true, plainKeys := false, apart := false, narrowed := true }
def WeightAddsUptoSaid : Prop := weightAddsUptoRow.holds Try.pinned (OpenSpec.upto weightAddsSpec)

/-- 'areopaguslaw08.WeightSteps', WHERE WHAT IT READS IS OF BULK AT MOST 1048576: true; the input reads as it did. -/
def weightStepsUptoRow : OpenClaim := { program := "ytonfmddjlhgglaa", sum := "6f74c38f0a376e7e70b3282010b629e8169d64009eaf269d476c4c4e1f5eccaf", func := "areopagus/areopaguslaw08.WeightSteps", spec := "weightSteps", inPlace := ["math/bits.Add64"], unfollowed := true, recurses := true, plainKeys := false, apart := false, narrowed := true }
def WeightStepsUptoSaid : Prop := weightStepsUptoRow.holds Try.pinned (OpenSpec.upto weightStepsSpec)

end Rows
end Go.Proofs.Ytonfmddjlhgglaa
