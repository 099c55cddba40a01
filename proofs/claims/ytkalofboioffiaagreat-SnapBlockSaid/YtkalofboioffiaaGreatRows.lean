/-
  No cell of these rows narrows 'for every input' (looked for: loops, veiled, ifaces, maps, wideKeys, modest, calm, conditions, laid).
  DERIVED. THE GIVEN ROWS OF THIS SEAT. 6 by the template 'for every input the law returns true; each argument reads behind the call as it read before'; 0 by the template 'total and deterministic' (their statements: YtkalofboioffiaaGreatTotals.lean).
  GIVEN WITH THE SEED: the statements are not yours to turn. If you find one false, say at which input.
  Laid BY PROGRAM, IN A SANDBOX (cutbox-rows.mjs): the forced cells as the released guide's own fill.sh prints them over the translation 9777980b382d6939… (all of the seat's roots in one cut). By AI agents, Wed Nov 11 2026. No macro, syntax, notation, axiom, sorry.
-/
import Derived.Test.YtkalofboioffiaaGreatChecked
import GoSem.Claim
import GoSem.ClaimJoined
import GoSem.ClaimMapViews
import Derived.JoinedTies
import Derived.KernelRfl
namespace Go.Proofs.YtkalofboioffiaaGreat
/- THE CELL 'sum', in the pinned program and in every row, IS THE sha256 OF THE DUMP (.gsa) THAT YtkalofboioffiaaGreatProg.lean LOADS. Nothing in Lean hashes anything: it is a label: what it is worth is what the hold of that sum in a sandbox is worth. -/
noncomputable def Tryz.pinned : Pinned := { name := "ytkalofboioffiaagreat", sum := "9777980b382d6939122fed768d06808fa93d5f8bc9ace162cad0abbfb093bf35", checked := Tryz.checked }
namespace Rows
def none {H : Type} : Left H := { results := [], args := [] }

/-- 'areopaguslaw18.SnapTells': WHATEVER THE INPUT: true; the input reads as it did. -/
def snapTellsSpec : ChangeSpec := { name := "snapTells", fn := fun _ => fun
  | [d1, d2, d3, d4, d5] => { results := [.lit (.bool true)], args := [d1, d2, d3, d4, d5] }
  | _ => none }
def snapTellsRow : OpenClaim := { program := "ytkalofboioffiaagreat", sum := "9777980b382d6939122fed768d06808fa93d5f8bc9ace162cad0abbfb093bf35", func := "areopagus/areopaguslaw18.SnapTells", spec := "snapTells", inPlace := ["math/bits.Add64"], unfollowed := true, recurses := true, plainKeys := false, apart := false }
def SnapTellsSaid : Prop := snapTellsRow.holds Tryz.pinned (OpenSpec.ofChange snapTellsSpec)

/-- ITS FALSE NEIGHBOUR: 'it returns false'. Refute it at one input. -/
def snapTellsWrong : ChangeSpec := { name := "snapTells", fn := fun _ => fun
  | [d1, d2, d3, d4, d5] => { results := [.lit (.bool false)], args := [d1, d2, d3, d4, d5] }
  | _ => none }
def SnapTellsWrongFalsely : Prop := snapTellsRow.holds Tryz.pinned (OpenSpec.ofChange snapTellsWrong)

/-- 'areopaguslaw18.SnapHead': WHATEVER THE INPUT: true; the input reads as it did. -/
def snapHeadSpec : ChangeSpec := { name := "snapHead", fn := fun _ => fun
  | [d1, d2] => { results := [.lit (.bool true)], args := [d1, d2] }
  | _ => none }
def snapHeadRow : OpenClaim := { program := "ytkalofboioffiaagreat", sum := "9777980b382d6939122fed768d06808fa93d5f8bc9ace162cad0abbfb093bf35", func := "areopagus/areopaguslaw18.SnapHead", spec := "snapHead", inPlace := ["math/bits.Add64"], unfollowed := true, recurses := true, plainKeys := false, apart := false }
def SnapHeadSaid : Prop := snapHeadRow.holds Tryz.pinned (OpenSpec.ofChange snapHeadSpec)

/-- ITS FALSE NEIGHBOUR: 'it returns false'. Refute it at one input. -/
def snapHeadWrong : ChangeSpec := { name := "snapHead", fn := fun _ => fun
  | [d1, d2] => { results := [.lit (.bool false)], args := [d1, d2] }
  | _ => none }
def SnapHeadWrongFalsely : Prop := snapHeadRow.holds Tryz.pinned (OpenSpec.ofChange snapHeadWrong)

/-- 'areopaguslaw18.SnapPrune': WHATEVER THE INPUT: true; the input reads as it did. -/
def snapPruneSpec : ChangeSpec := { name := "snapPrune", fn := fun _ => fun
  | [d1, d2] => { results := [.lit (.bool true)], args := [d1, d2] }
  | _ => none }
def snapPruneRow : OpenClaim := { program := "ytkalofboioffiaagreat", sum := "9777980b382d6939122fed768d06808fa93d5f8bc9ace162cad0abbfb093bf35", func := "areopagus/areopaguslaw18.SnapPrune", spec := "snapPrune", inPlace := ["math/bits.Add64"], unfollowed := true, recurses := true, plainKeys := false, apart := false }
def SnapPruneSaid : Prop := snapPruneRow.holds Tryz.pinned (OpenSpec.ofChange snapPruneSpec)

/-- ITS FALSE NEIGHBOUR: 'it returns false'. Refute it at one input. -/
def snapPruneWrong : ChangeSpec := { name := "snapPrune", fn := fun _ => fun
  | [d1, d2] => { results := [.lit (.bool false)], args := [d1, d2] }
  | _ => none }
def SnapPruneWrongFalsely : Prop := snapPruneRow.holds Tryz.pinned (OpenSpec.ofChange snapPruneWrong)

/-- 'areopaguslaw18.SnapAsk': WHATEVER THE INPUT: true; the input reads as it did. -/
def snapAskSpec : ChangeSpec := { name := "snapAsk", fn := fun _ => fun
  | [d1, d2, d3] => { results := [.lit (.bool true)], args := [d1, d2, d3] }
  | _ => none }
def snapAskRow : OpenClaim := { program := "ytkalofboioffiaagreat", sum := "9777980b382d6939122fed768d06808fa93d5f8bc9ace162cad0abbfb093bf35", func := "areopagus/areopaguslaw18.SnapAsk", spec := "snapAsk", inPlace := ["math/bits.Add64"], unfollowed := true, recurses := true, plainKeys := false, apart := false }
def SnapAskSaid : Prop := snapAskRow.holds Tryz.pinned (OpenSpec.ofChange snapAskSpec)

/-- ITS FALSE NEIGHBOUR: 'it returns false'. Refute it at one input. -/
def snapAskWrong : ChangeSpec := { name := "snapAsk", fn := fun _ => fun
  | [d1, d2, d3] => { results := [.lit (.bool false)], args := [d1, d2, d3] }
  | _ => none }
def SnapAskWrongFalsely : Prop := snapAskRow.holds Tryz.pinned (OpenSpec.ofChange snapAskWrong)

/-- 'areopaguslaw18.SnapSlots': WHATEVER THE INPUT: true; the input reads as it did. -/
def snapSlotsSpec : ChangeSpec := { name := "snapSlots", fn := fun _ => fun
  | [d1, d2] => { results := [.lit (.bool true)], args := [d1, d2] }
  | _ => none }
def snapSlotsRow : OpenClaim := { program := "ytkalofboioffiaagreat", sum := "9777980b382d6939122fed768d06808fa93d5f8bc9ace162cad0abbfb093bf35", func := "areopagus/areopaguslaw18.SnapSlots", spec := "snapSlots", inPlace := ["math/bits.Add64"], unfollowed := true, recurses := true, plainKeys := false, apart := false }
def SnapSlotsSaid : Prop := snapSlotsRow.holds Tryz.pinned (OpenSpec.ofChange snapSlotsSpec)

/-- ITS FALSE NEIGHBOUR: 'it returns false'. Refute it at one input. -/
def snapSlotsWrong : ChangeSpec := { name := "snapSlots", fn := fun _ => fun
  | [d1, d2] => { results := [.lit (.bool false)], args := [d1, d2] }
  | _ => none }
def SnapSlotsWrongFalsely : Prop := snapSlotsRow.holds Tryz.pinned (OpenSpec.ofChange snapSlotsWrong)

/-- 'areopaguslaw18.SnapBlock': WHATEVER THE INPUT: true; the input reads as it did. -/
def snapBlockSpec : ChangeSpec := { name := "snapBlock", fn := fun _ => fun
  | [d1, d2, d3] => { results := [.lit (.bool true)], args := [d1, d2, d3] }
  | _ => none }
def snapBlockRow : OpenClaim := { program := "ytkalofboioffiaagreat", sum := "9777980b382d6939122fed768d06808fa93d5f8bc9ace162cad0abbfb093bf35", func := "areopagus/areopaguslaw18.SnapBlock", spec := "snapBlock", inPlace := ["math/bits.Add64"], unfollowed := true, recurses := true, plainKeys := false, apart := false }
def SnapBlockSaid : Prop := snapBlockRow.holds Tryz.pinned (OpenSpec.ofChange snapBlockSpec)

/-- ITS FALSE NEIGHBOUR: 'it returns false'. Refute it at one input. -/
def snapBlockWrong : ChangeSpec := { name := "snapBlock", fn := fun _ => fun
  | [d1, d2, d3] => { results := [.lit (.bool false)], args := [d1, d2, d3] }
  | _ => none }
def SnapBlockWrongFalsely : Prop := snapBlockRow.holds Tryz.pinned (OpenSpec.ofChange snapBlockWrong)

/- THE SECOND FORM. 'bulk': how many values and letters a reading holds, each counted each time it is reached (what is shared counts as often as it is met; a slice's spare places count too). A statement '..UptoSaid' is the law's where the arguments, and the package variables that the reading takes, are together of bulk at most 1048576: NARROWER than '..Said'. Prove '..Said' where nothing that the law and all that it calls make is longer than what came in: it says more and counts as full. Else prove '..UptoSaid'. A law counts once. -/
mutual
def uptoBulk {H : Type} : DataW H → Nat
  | .lit (.string bytes) => bytes.length + 1
  | .lit _ => 1
  | .nil => 1
  | .ptr d => uptoBulk d + 1
  | .slice elems spare => uptoBulkAll elems + uptoBulkAll spare + 1
  | .agg parts => uptoBulkAll parts + 1
  | .iface _ d => uptoBulk d + 1
  | .map entries => uptoBulkEntries entries + 1
  | .held _ => 1
def uptoBulkAll {H : Type} : List (DataW H) → Nat
  | [] => 0
  | d :: r => uptoBulk d + uptoBulkAll r
def uptoBulkEntries {H : Type} : List (Lit × DataW H) → Nat
  | [] => 0
  | x :: r => uptoBulkEntry x + uptoBulkEntries r
def uptoBulkEntry {H : Type} : Lit × DataW H → Nat
  | (.string bytes, d) => bytes.length + uptoBulk d + 1
  | (_, d) => uptoBulk d + 1
 end
def uptoSmall : (H : Type) → List (DataW H) → Bool := fun _ ds => decide (uptoBulkAll ds ≤ 1048576)
def OpenSpec.upto (s : _root_.Go.ChangeSpec) : _root_.Go.OpenSpec := { _root_.Go.OpenSpec.ofChange s with cond := some uptoSmall }

/-- 'areopaguslaw18.SnapTells', WHERE WHAT IT READS IS OF BULK AT MOST 1048576: true; the input reads as it did. -/
def snapTellsUptoRow : OpenClaim := { program := "ytkalofboioffiaagreat", sum := "9777980b382d6939122fed768d06808fa93d5f8bc9ace162cad0abbfb093bf35", func := "areopagus/areopaguslaw18.SnapTells", spec := "snapTells", inPlace := ["math/bits.Add64"], unfollowed := true, recurses := true, plainKeys := false, apart := false, narrowed := true }
def SnapTellsUptoSaid : Prop := snapTellsUptoRow.holds Tryz.pinned (OpenSpec.upto snapTellsSpec)

/-- 'areopaguslaw18.SnapHead', WHERE WHAT IT READS IS OF BULK AT MOST 1048576: true; the input reads as it did. -/
def snapHeadUptoRow : OpenClaim := { program := "ytkalofboioffiaagreat", sum := "9777980b382d6939122fed768d06808fa93d5f8bc9ace162cad0abbfb093bf35", func := "areopagus/areopaguslaw18.SnapHead", spec := "snapHead", inPlace := ["math/bits.Add64"], unfollowed := true, recurses := true, plainKeys := false, apart := false, narrowed := true }
def SnapHeadUptoSaid : Prop := snapHeadUptoRow.holds Tryz.pinned (OpenSpec.upto snapHeadSpec)

/-- 'areopaguslaw18.SnapPrune', WHERE WHAT IT READS IS OF BULK AT MOST 1048576: true; the input reads as it did. -/
def snapPruneUptoRow : OpenClaim := { program := "ytkalofboioffiaagreat", sum := "9777980b382d6939122fed768d06808fa93d5f8bc9ace162cad0abbfb093bf35", func := "areopagus/areopaguslaw18.SnapPrune", spec := "snapPrune", inPlace := ["math/bits.Add64"], unfollowed := true, recurses := true, plainKeys := false, apart := false, narrowed := true }
def SnapPruneUptoSaid : Prop := snapPruneUptoRow.holds Tryz.pinned (OpenSpec.upto snapPruneSpec)

/-- 'areopaguslaw18.SnapAsk', WHERE WHAT IT READS IS OF BULK AT MOST 1048576: true; the input reads as it did. -/
def snapAskUptoRow : OpenClaim := { program := "ytkalofboioffiaagreat", sum := "9777980b382d6939122fed768d06808fa93d5f8bc9ace162cad0abbfb093bf35", func := "areopagus/areopaguslaw18.SnapAsk", spec := "snapAsk", inPlace := ["math/bits.Add64"], unfollowed := true, recurses := true, plainKeys := false, apart := false, narrowed := true }
def SnapAskUptoSaid : Prop := snapAskUptoRow.holds Tryz.pinned (OpenSpec.upto snapAskSpec)

/-- 'areopaguslaw18.SnapSlots', WHERE WHAT IT READS IS OF BULK AT MOST 1048576: true; the input reads as it did. -/
def snapSlotsUptoRow : OpenClaim := { program := "ytkalofboioffiaagreat", sum := "9777980b382d6939122fed768d06808fa93d5f8bc9ace162cad0abbfb093bf35", func := "areopagus/areopaguslaw18.SnapSlots", spec := "snapSlots", inPlace := ["math/bits.Add64"], unfollowed := true, recurses := true, plainKeys := false, apart := false, narrowed := true }
def SnapSlotsUptoSaid : Prop := snapSlotsUptoRow.holds Tryz.pinned (OpenSpec.upto snapSlotsSpec)

/-- 'areopaguslaw18.SnapBlock', WHERE WHAT IT READS IS OF BULK AT MOST 1048576: true; the input reads as it did. -/
def snapBlockUptoRow : OpenClaim := { program := "ytkalofboioffiaagreat", sum := "9777980b382d6939122fed768d06808fa93d5f8bc9ace162cad0abbfb093bf35", func := "areopagus/areopaguslaw18.SnapBlock", spec := "snapBlock", inPlace := ["math/bits.Add64"], unfollowed := true, recurses := true, plainKeys := false, apart := false, narrowed := true }
def SnapBlockUptoSaid : Prop := snapBlockUptoRow.holds Tryz.pinned (OpenSpec.upto snapBlockSpec)

end Rows
end Go.Proofs.YtkalofboioffiaaGreat
