/-
  No cell of these rows narrows 'for every input' (looked for: loops, veiled, ifaces, maps, wideKeys, modest, calm, conditions, laid).
  DERIVED. THE GIVEN ROWS OF THIS SEAT. 5 by the template 'for every input the law returns true; each argument reads behind the call as it read before'; 0 by the template 'total and deterministic' (their statements: YtjmpgphoiehdmaaTotals.lean).
  GIVEN WITH THE SEED: the statements are not yours to turn. If you find one false, say at which input.
  Laid BY PROGRAM, IN A SANDBOX (cutbox-rows.mjs): the forced cells as the released guide's own fill.sh prints them over the translation 2713936d62043d88… (all of the seat's roots in one cut). By AI agents, Wed Nov 11 2026. No macro, syntax, notation, axiom, sorry.
-/
import Derived.Test.YtjmpgphoiehdmaaChecked
import GoSem.Claim
import GoSem.ClaimJoined
import GoSem.ClaimMapViews
import Derived.JoinedTies
import Derived.KernelRfl
namespace Go.Proofs.Ytjmpgphoiehdmaa
/- THE CELL 'sum', in the pinned program and in every row, IS THE sha256 OF THE DUMP (.gsa) THAT YtjmpgphoiehdmaaProg.lean LOADS. Nothing in Lean hashes anything: it is a label: what it is worth is what the hold of that sum in a sandbox is worth. -/
noncomputable def Try.pinned : Pinned := { name := "ytjmpgphoiehdmaa", sum := "2713936d62043d887aada8c7a8a3b4b2399218f98be7f20dcad614c576256ca6", checked := Try.checked }
namespace Rows
def none {H : Type} : Left H := { results := [], args := [] }

/-- 'areopaguslaw09.BestTells': WHATEVER THE INPUT: true; the input reads as it did. -/
def bestTellsSpec : ChangeSpec := { name := "bestTells", fn := fun _ => fun
  | [d1, d2, d3, d4] => { results := [.lit (.bool true)], args := [d1, d2, d3, d4] }
  | _ => none }
def bestTellsRow : OpenClaim := { program := "ytjmpgphoiehdmaa", sum := "2713936d62043d887aada8c7a8a3b4b2399218f98be7f20dcad614c576256ca6", func := "areopagus/areopaguslaw09.BestTells", spec := "bestTells", unfollowed := true, recurses := true, plainKeys := false, apart := false }
def BestTellsSaid : Prop := bestTellsRow.holds Try.pinned (OpenSpec.ofChange bestTellsSpec)

/-- ITS FALSE NEIGHBOUR: 'it returns false'. Refute it at one input. -/
def bestTellsWrong : ChangeSpec := { name := "bestTells", fn := fun _ => fun
  | [d1, d2, d3, d4] => { results := [.lit (.bool false)], args := [d1, d2, d3, d4] }
  | _ => none }
def BestTellsWrongFalsely : Prop := bestTellsRow.holds Try.pinned (OpenSpec.ofChange bestTellsWrong)

/-- 'areopaguslaw09.BestKid': WHATEVER THE INPUT: true; the input reads as it did. -/
def bestKidSpec : ChangeSpec := { name := "bestKid", fn := fun _ => fun
  | [d1, d2, d3, d4] => { results := [.lit (.bool true)], args := [d1, d2, d3, d4] }
  | _ => none }
def bestKidRow : OpenClaim := { program := "ytjmpgphoiehdmaa", sum := "2713936d62043d887aada8c7a8a3b4b2399218f98be7f20dcad614c576256ca6", func := "areopagus/areopaguslaw09.BestKid", spec := "bestKid", unfollowed := true, recurses := true, plainKeys := false, apart := false }
def BestKidSaid : Prop := bestKidRow.holds Try.pinned (OpenSpec.ofChange bestKidSpec)

/-- ITS FALSE NEIGHBOUR: 'it returns false'. Refute it at one input. -/
def bestKidWrong : ChangeSpec := { name := "bestKid", fn := fun _ => fun
  | [d1, d2, d3, d4] => { results := [.lit (.bool false)], args := [d1, d2, d3, d4] }
  | _ => none }
def BestKidWrongFalsely : Prop := bestKidRow.holds Try.pinned (OpenSpec.ofChange bestKidWrong)

/-- 'areopaguslaw09.BestHead': WHATEVER THE INPUT: true; the input reads as it did. -/
def bestHeadSpec : ChangeSpec := { name := "bestHead", fn := fun _ => fun
  | [d1, d2, d3, d4] => { results := [.lit (.bool true)], args := [d1, d2, d3, d4] }
  | _ => none }
def bestHeadRow : OpenClaim := { program := "ytjmpgphoiehdmaa", sum := "2713936d62043d887aada8c7a8a3b4b2399218f98be7f20dcad614c576256ca6", func := "areopagus/areopaguslaw09.BestHead", spec := "bestHead", unfollowed := true, recurses := true, plainKeys := false, apart := false }
def BestHeadSaid : Prop := bestHeadRow.holds Try.pinned (OpenSpec.ofChange bestHeadSpec)

/-- ITS FALSE NEIGHBOUR: 'it returns false'. Refute it at one input. -/
def bestHeadWrong : ChangeSpec := { name := "bestHead", fn := fun _ => fun
  | [d1, d2, d3, d4] => { results := [.lit (.bool false)], args := [d1, d2, d3, d4] }
  | _ => none }
def BestHeadWrongFalsely : Prop := bestHeadRow.holds Try.pinned (OpenSpec.ofChange bestHeadWrong)

/-- 'areopaguslaw09.BestPairs': WHATEVER THE INPUT: true; the input reads as it did. -/
def bestPairsSpec : ChangeSpec := { name := "bestPairs", fn := fun _ => fun
  | [d1, d2, d3, d4] => { results := [.lit (.bool true)], args := [d1, d2, d3, d4] }
  | _ => none }
def bestPairsRow : OpenClaim := { program := "ytjmpgphoiehdmaa", sum := "2713936d62043d887aada8c7a8a3b4b2399218f98be7f20dcad614c576256ca6", func := "areopagus/areopaguslaw09.BestPairs", spec := "bestPairs", unfollowed := true, recurses := true, plainKeys := false, apart := false }
def BestPairsSaid : Prop := bestPairsRow.holds Try.pinned (OpenSpec.ofChange bestPairsSpec)

/-- ITS FALSE NEIGHBOUR: 'it returns false'. Refute it at one input. -/
def bestPairsWrong : ChangeSpec := { name := "bestPairs", fn := fun _ => fun
  | [d1, d2, d3, d4] => { results := [.lit (.bool false)], args := [d1, d2, d3, d4] }
  | _ => none }
def BestPairsWrongFalsely : Prop := bestPairsRow.holds Try.pinned (OpenSpec.ofChange bestPairsWrong)

/-- 'areopaguslaw09.BestOff': WHATEVER THE INPUT: true; the input reads as it did. -/
def bestOffSpec : ChangeSpec := { name := "bestOff", fn := fun _ => fun
  | [d1, d2, d3, d4] => { results := [.lit (.bool true)], args := [d1, d2, d3, d4] }
  | _ => none }
def bestOffRow : OpenClaim := { program := "ytjmpgphoiehdmaa", sum := "2713936d62043d887aada8c7a8a3b4b2399218f98be7f20dcad614c576256ca6", func := "areopagus/areopaguslaw09.BestOff", spec := "bestOff", unfollowed := true, recurses := true, plainKeys := false, apart := false }
def BestOffSaid : Prop := bestOffRow.holds Try.pinned (OpenSpec.ofChange bestOffSpec)

/-- ITS FALSE NEIGHBOUR: 'it returns false'. Refute it at one input. -/
def bestOffWrong : ChangeSpec := { name := "bestOff", fn := fun _ => fun
  | [d1, d2, d3, d4] => { results := [.lit (.bool false)], args := [d1, d2, d3, d4] }
  | _ => none }
def BestOffWrongFalsely : Prop := bestOffRow.holds Try.pinned (OpenSpec.ofChange bestOffWrong)

/- THE SECOND FORM. 'bulk': how many values and letters a reading holds, each counted each time it is reached (what is shared counts as often as it is met; a slice's spare places count too). A statement '..UptoSaid' is the law's where the arguments, and the package variables that the reading takes, are together of bulk at most 1048576: NARROWER than '..Said'. Prove '..Said' where nothing that the law and all that it calls make is longer than what came in: it says more and counts as full. Else prove '..UptoSaid'. A law counts once. -/
mutual
def uptoBulk {H : Type} : DataW H → Nat
  | .lit (.string bytes) => bytes.length + 1
  | .lit _ => 1
  | .nil => 1
  | .ptr d => uptoBulk d + 1
  | .slice elems spare => uptoBulkAll elems + uptoBulkAll spare + 1
  | .agg parts => uptoBulkAll parts + 1
  | .iface _ d => uptoBulk d + 1
  | .map entries => uptoBulkEntries entries + 1
  | .held _ => 1
def uptoBulkAll {H : Type} : List (DataW H) → Nat
  | [] => 0
  | d :: r => uptoBulk d + uptoBulkAll r
def uptoBulkEntries {H : Type} : List (Lit × DataW H) → Nat
  | [] => 0
  | x :: r => uptoBulkEntry x + uptoBulkEntries r
def uptoBulkEntry {H : Type} : Lit × DataW H → Nat
  | (.string bytes, d) => bytes.length + uptoBulk d + 1
  | (_, d) => uptoBulk d + 1
 end
def uptoSmall : (H : Type) → List (DataW H) → Bool := fun _ ds => decide (uptoBulkAll ds ≤ 1048576)
def OpenSpec.upto (s : _root_.Go.ChangeSpec) : _root_.Go.OpenSpec := { _root_.Go.OpenSpec.ofChange s with cond := some uptoSmall }

/-- 'areopaguslaw09.BestTells', WHERE WHAT IT READS IS OF BULK AT MOST 1048576: true; the input reads as it did. -/
def bestTellsUptoRow : OpenClaim := { program := "ytjmpgphoiehdmaa", sum := "2713936d62043d887aada8c7a8a3b4b2399218f98be7f20dcad614c576256ca6", func := "areopagus/areopaguslaw09.BestTells", spec := "bestTells", unfollowed := true, recurses := true, plainKeys := false, apart := false, narrowed := true }
def BestTellsUptoSaid : Prop := bestTellsUptoRow.holds Try.pinned (OpenSpec.upto bestTellsSpec)

/-- 'areopaguslaw09.BestKid', WHERE WHAT IT READS IS OF BULK AT MOST 1048576: true; the input reads as it did. -/
def bestKidUptoRow : OpenClaim := { program := "ytjmpgphoiehdmaa", sum := "2713936d62043d887aada8c7a8a3b4b2399218f98be7f20dcad614c576256ca6", func := "areopagus/areopaguslaw09.BestKid", spec := "bestKid", unfollowed := true, recurses := true, plainKeys := false, apart := false, narrowed := true }
def BestKidUptoSaid : Prop := bestKidUptoRow.holds Try.pinned (OpenSpec.upto bestKidSpec)

/-- 'areopaguslaw09.BestHead', WHERE WHAT IT READS IS OF BULK AT MOST 1048576: true; the input reads as it did. -/
def bestHeadUptoRow : OpenClaim := { program := "ytjmpgphoiehdmaa", sum := "2713936d62043d887aada8c7a8a3b4b2399218f98be7f20dcad614c576256ca6", func := "areopagus/areopaguslaw09.BestHead", spec := "bestHead", unfollowed := true, recurses := true, plainKeys := false, apart := false, narrowed := true }
def BestHeadUptoSaid : Prop := bestHeadUptoRow.holds Try.pinned (OpenSpec.upto bestHeadSpec)

/-- 'areopaguslaw09.BestPairs', WHERE WHAT IT READS IS OF BULK AT MOST 1048576: true; the input reads as it did. -/
def bestPairsUptoRow : OpenClaim := { program := "ytjmpgphoiehdmaa", sum := "2713936d62043d887aada8c7a8a3b4b2399218f98be7f20dcad614c576256ca6", func := "areopagus/areopaguslaw09.BestPairs", spec := "bestPairs", unfollowed := true, recurses := true, plainKeys := false, apart := false, narrowed := true }
def BestPairsUptoSaid : Prop := bestPairsUptoRow.holds Try.pinned (OpenSpec.upto bestPairsSpec)

/-- 'areopaguslaw09.BestOff', WHERE WHAT IT READS IS OF BULK AT MOST 1048576: true; the input reads as it did. -/
def bestOffUptoRow : OpenClaim := { program := "ytjmpgphoiehdmaa", sum := "2713936d62043d887aada8c7a8a3b4b2399218f98be7f20dcad614c576256ca6", func := "areopagus/areopaguslaw09.BestOff", spec := "bestOff", unfollowed := true, recurses := true, plainKeys := false, apart := false, narrowed := true }
def BestOffUptoSaid : Prop := bestOffUptoRow.holds Try.pinned (OpenSpec.upto bestOffSpec)

end Rows
end Go.Proofs.Ytjmpgphoiehdmaa
