/-
  No cell of these rows narrows 'for every input' (looked for: loops, veiled, ifaces, maps, wideKeys, modest, calm, conditions, laid).
  DERIVED. THE GIVEN ROWS OF THIS SEAT. 6 by the template 'for every input the law returns true; each argument reads behind the call as it read before'; 0 by the template 'total and deterministic' (their statements: YtfmbgpjpkahmnaaTotals.lean).
  GIVEN WITH THE SEED: the statements are not yours to turn. If you find one false, say at which input.
  Laid BY PROGRAM, IN A SANDBOX (cutbox-rows.mjs): the forced cells as the released guide's own fill.sh prints them over the translation 050b6780f326a739… (all of the seat's roots in one cut). By AI agents, Wed Nov 11 2026. No macro, syntax, notation, axiom, sorry.
-/
import Derived.Test.YtfmbgpjpkahmnaaChecked
import GoSem.Claim
import GoSem.ClaimJoined
import GoSem.ClaimMapViews
import Derived.JoinedTies
import Derived.KernelRfl
namespace Go.Proofs.Ytfmbgpjpkahmnaa
/- THE CELL 'sum', in the pinned program and in every row, IS THE sha256 OF THE DUMP (.gsa) THAT YtfmbgpjpkahmnaaProg.lean LOADS. Nothing in Lean hashes anything: it is a label: what it is worth is what the hold of that sum in a sandbox is worth. -/
noncomputable def Try.pinned : Pinned := { name := "ytfmbgpjpkahmnaa", sum := "050b6780f326a7393a327dcf34b46eafe93f49a05b25ea79cd2cb66839248bcd", checked := Try.checked }
namespace Rows
def none {H : Type} : Left H := { results := [], args := [] }

/-- 'areopaguslaw12.VoteTells': WHATEVER THE INPUT: true; the input reads as it did. -/
def voteTellsSpec : ChangeSpec := { name := "voteTells", fn := fun _ => fun
  | [d1, d2, d3, d4, d5, d6] => { results := [.lit (.bool true)], args := [d1, d2, d3, d4, d5, d6] }
  | _ => none }
def voteTellsRow : OpenClaim := { program := "ytfmbgpjpkahmnaa", sum := "050b6780f326a7393a327dcf34b46eafe93f49a05b25ea79cd2cb66839248bcd", func := "areopagus/areopaguslaw12.VoteTells", spec := "voteTells", plainKeys := false, apart := false }
def VoteTellsSaid : Prop := voteTellsRow.holds Try.pinned (OpenSpec.ofChange voteTellsSpec)

/-- ITS FALSE NEIGHBOUR: 'it returns false'. Refute it at one input. -/
def voteTellsWrong : ChangeSpec := { name := "voteTells", fn := fun _ => fun
  | [d1, d2, d3, d4, d5, d6] => { results := [.lit (.bool false)], args := [d1, d2, d3, d4, d5, d6] }
  | _ => none }
def VoteTellsWrongFalsely : Prop := voteTellsRow.holds Try.pinned (OpenSpec.ofChange voteTellsWrong)

/-- 'areopaguslaw12.VoteLatest': WHATEVER THE INPUT: true; the input reads as it did. -/
def voteLatestSpec : ChangeSpec := { name := "voteLatest", fn := fun _ => fun
  | [d1, d2, d3, d4] => { results := [.lit (.bool true)], args := [d1, d2, d3, d4] }
  | _ => none }
def voteLatestRow : OpenClaim := { program := "ytfmbgpjpkahmnaa", sum := "050b6780f326a7393a327dcf34b46eafe93f49a05b25ea79cd2cb66839248bcd", func := "areopagus/areopaguslaw12.VoteLatest", spec := "voteLatest", plainKeys := false, apart := false }
def VoteLatestSaid : Prop := voteLatestRow.holds Try.pinned (OpenSpec.ofChange voteLatestSpec)

/-- ITS FALSE NEIGHBOUR: 'it returns false'. Refute it at one input. -/
def voteLatestWrong : ChangeSpec := { name := "voteLatest", fn := fun _ => fun
  | [d1, d2, d3, d4] => { results := [.lit (.bool false)], args := [d1, d2, d3, d4] }
  | _ => none }
def VoteLatestWrongFalsely : Prop := voteLatestRow.holds Try.pinned (OpenSpec.ofChange voteLatestWrong)

/-- 'areopaguslaw12.VoteOne': WHATEVER THE INPUT: true; the input reads as it did. -/
def voteOneSpec : ChangeSpec := { name := "voteOne", fn := fun _ => fun
  | [d1, d2, d3, d4, d5] => { results := [.lit (.bool true)], args := [d1, d2, d3, d4, d5] }
  | _ => none }
def voteOneRow : OpenClaim := { program := "ytfmbgpjpkahmnaa", sum := "050b6780f326a7393a327dcf34b46eafe93f49a05b25ea79cd2cb66839248bcd", func := "areopagus/areopaguslaw12.VoteOne", spec := "voteOne", plainKeys := false, apart := false }
def VoteOneSaid : Prop := voteOneRow.holds Try.pinned (OpenSpec.ofChange voteOneSpec)

/-- ITS FALSE NEIGHBOUR: 'it returns false'. Refute it at one input. -/
def voteOneWrong : ChangeSpec := { name := "voteOne", fn := fun _ => fun
  | [d1, d2, d3, d4, d5] => { results := [.lit (.bool false)], args := [d1, d2, d3, d4, d5] }
  | _ => none }
def VoteOneWrongFalsely : Prop := voteOneRow.holds Try.pinned (OpenSpec.ofChange voteOneWrong)

/-- 'areopaguslaw12.VoteDrop': WHATEVER THE INPUT: true; the input reads as it did. -/
def voteDropSpec : ChangeSpec := { name := "voteDrop", fn := fun _ => fun
  | [d1, d2, d3] => { results := [.lit (.bool true)], args := [d1, d2, d3] }
  | _ => none }
def voteDropRow : OpenClaim := { program := "ytfmbgpjpkahmnaa", sum := "050b6780f326a7393a327dcf34b46eafe93f49a05b25ea79cd2cb66839248bcd", func := "areopagus/areopaguslaw12.VoteDrop", spec := "voteDrop", plainKeys := false, apart := false }
def VoteDropSaid : Prop := voteDropRow.holds Try.pinned (OpenSpec.ofChange voteDropSpec)

/-- ITS FALSE NEIGHBOUR: 'it returns false'. Refute it at one input. -/
def voteDropWrong : ChangeSpec := { name := "voteDrop", fn := fun _ => fun
  | [d1, d2, d3] => { results := [.lit (.bool false)], args := [d1, d2, d3] }
  | _ => none }
def VoteDropWrongFalsely : Prop := voteDropRow.holds Try.pinned (OpenSpec.ofChange voteDropWrong)

/-- 'areopaguslaw12.VoteFirst': WHATEVER THE INPUT: true; the input reads as it did. -/
def voteFirstSpec : ChangeSpec := { name := "voteFirst", fn := fun _ => fun
  | [d1, d2, d3, d4] => { results := [.lit (.bool true)], args := [d1, d2, d3, d4] }
  | _ => none }
def voteFirstRow : OpenClaim := { program := "ytfmbgpjpkahmnaa", sum := "050b6780f326a7393a327dcf34b46eafe93f49a05b25ea79cd2cb66839248bcd", func := "areopagus/areopaguslaw12.VoteFirst", spec := "voteFirst", plainKeys := false, apart := false }
def VoteFirstSaid : Prop := voteFirstRow.holds Try.pinned (OpenSpec.ofChange voteFirstSpec)

/-- ITS FALSE NEIGHBOUR: 'it returns false'. Refute it at one input. -/
def voteFirstWrong : ChangeSpec := { name := "voteFirst", fn := fun _ => fun
  | [d1, d2, d3, d4] => { results := [.lit (.bool false)], args := [d1, d2, d3, d4] }
  | _ => none }
def VoteFirstWrongFalsely : Prop := voteFirstRow.holds Try.pinned (OpenSpec.ofChange voteFirstWrong)

/-- 'areopaguslaw12.VoteLater': WHATEVER THE INPUT: true; the input reads as it did. -/
def voteLaterSpec : ChangeSpec := { name := "voteLater", fn := fun _ => fun
  | [d1, d2, d3, d4] => { results := [.lit (.bool true)], args := [d1, d2, d3, d4] }
  | _ => none }
def voteLaterRow : OpenClaim := { program := "ytfmbgpjpkahmnaa", sum := "050b6780f326a7393a327dcf34b46eafe93f49a05b25ea79cd2cb66839248bcd", func := "areopagus/areopaguslaw12.VoteLater", spec := "voteLater", plainKeys := false, apart := false }
def VoteLaterSaid : Prop := voteLaterRow.holds Try.pinned (OpenSpec.ofChange voteLaterSpec)

/-- ITS FALSE NEIGHBOUR: 'it returns false'. Refute it at one input. -/
def voteLaterWrong : ChangeSpec := { name := "voteLater", fn := fun _ => fun
  | [d1, d2, d3, d4] => { results := [.lit (.bool false)], args := [d1, d2, d3, d4] }
  | _ => none }
def VoteLaterWrongFalsely : Prop := voteLaterRow.holds Try.pinned (OpenSpec.ofChange voteLaterWrong)

/- THE SECOND FORM. 'bulk': how many values and letters a reading holds, each counted each time it is reached (what is shared counts as often as it is met; a slice's spare places count too). A statement '..UptoSaid' is the law's where the arguments, and the package variables that the reading takes, are together of bulk at most 1048576: NARROWER than '..Said'. Prove '..Said' where nothing that the law and all that it calls make is longer than what came in: it says more and counts as full. Else prove '..UptoSaid'. A law counts once. -/
mutual
def uptoBulk {H : Type} : DataW H → Nat
  | .lit (.string bytes) => bytes.length + 1
  | .lit _ => 1
  | .nil => 1
  | .ptr d => uptoBulk d + 1
  | .slice elems spare => uptoBulkAll elems + uptoBulkAll spare + 1
  | .agg parts => uptoBulkAll parts + 1
  | .iface _ d => uptoBulk d + 1
  | .map entries => uptoBulkEntries entries + 1
  | .held _ => 1
def uptoBulkAll {H : Type} : List (DataW H) → Nat
  | [] => 0
  | d :: r => uptoBulk d + uptoBulkAll r
def uptoBulkEntries {H : Type} : List (Lit × DataW H) → Nat
  | [] => 0
  | x :: r => uptoBulkEntry x + uptoBulkEntries r
def uptoBulkEntry {H : Type} : Lit × DataW H → Nat
  | (.string bytes, d) => bytes.length + uptoBulk d + 1
  | (_, d) => uptoBulk d + 1
 end
def uptoSmall : (H : Type) → List (DataW H) → Bool := fun _ ds => decide (uptoBulkAll ds ≤ 1048576)
def OpenSpec.upto (s : _root_.Go.ChangeSpec) : _root_.Go.OpenSpec := { _root_.Go.OpenSpec.ofChange s with cond := some uptoSmall }

/-- 'areopaguslaw12.VoteTells', WHERE WHAT IT READS IS OF BULK AT MOST 1048576: true; the input reads as it did. -/
def voteTellsUptoRow : OpenClaim := { program := "ytfmbgpjpkahmnaa", sum := "050b6780f326a7393a327dcf34b46eafe93f49a05b25ea79cd2cb66839248bcd", func := "areopagus/areopaguslaw12.VoteTells", spec := "voteTells", plainKeys := false, apart := false, narrowed := true }
def VoteTellsUptoSaid : Prop := voteTellsUptoRow.holds Try.pinned (OpenSpec.upto voteTellsSpec)

/-- 'areopaguslaw12.VoteLatest', WHERE WHAT IT READS IS OF BULK AT MOST 1048576: true; the input reads as it did. -/
def voteLatestUptoRow : OpenClaim := { program := "ytfmbgpjpkahmnaa", sum := "050b6780f326a7393a327dcf34b46eafe93f49a05b25ea79cd2cb66839248bcd", func := "areopagus/areopaguslaw12.VoteLatest", spec := "voteLatest", plainKeys := false, apart := false, narrowed := true }
def VoteLatestUptoSaid : Prop := voteLatestUptoRow.holds Try.pinned (OpenSpec.upto voteLatestSpec)

/-- 'areopaguslaw12.VoteOne', WHERE WHAT IT READS IS OF BULK AT MOST 1048576: true; the input reads as it did. -/
def voteOneUptoRow : OpenClaim := { program := "ytfmbgpjpkahmnaa", sum := "050b6780f326a7393a327dcf34b46eafe93f49a05b25ea79cd2cb66839248bcd", func := "areopagus/areopaguslaw12.VoteOne", spec := "voteOne", plainKeys := false, apart := false, narrowed := true }
def VoteOneUptoSaid : Prop := voteOneUptoRow.holds Try.pinned (OpenSpec.upto voteOneSpec)

/-- 'areopaguslaw12.VoteDrop', WHERE WHAT IT READS IS OF BULK AT MOST 1048576: true; the input reads as it did. -/
def voteDropUptoRow : OpenClaim := { program := "ytfmbgpjpkahmnaa", sum := "050b6780f326a7393a327dcf34b46eafe93f49a05b25ea79cd2cb66839248bcd", func := "areopagus/areopaguslaw12.VoteDrop", spec := "voteDrop", plainKeys := false, apart := false, narrowed := true }
def VoteDropUptoSaid : Prop := voteDropUptoRow.holds Try.pinned (OpenSpec.upto voteDropSpec)

/-- 'areopaguslaw12.VoteFirst', WHERE WHAT IT READS IS OF BULK AT MOST 1048576: true; the input reads as it did. -/
def voteFirstUptoRow : OpenClaim := { program := "ytfmbgpjpkahmnaa", sum := "050b6780f326a7393a327dcf34b46eafe93f49a05b25ea79cd2cb66839248bcd", func := "areopagus/areopaguslaw12.VoteFirst", spec := "voteFirst", plainKeys := false, apart := false, narrowed := true }
def VoteFirstUptoSaid : Prop := voteFirstUptoRow.holds Try.pinned (OpenSpec.upto voteFirstSpec)

/-- 'areopaguslaw12.VoteLater', WHERE WHAT IT READS IS OF BULK AT MOST 1048576: true; the input reads as it did. -/
def voteLaterUptoRow : OpenClaim := { program := "ytfmbgpjpkahmnaa", sum := "050b6780f326a7393a327dcf34b46eafe93f49a05b25ea79cd2cb66839248bcd", func := "areopagus/areopaguslaw12.VoteLater", spec := "voteLater", plainKeys := false, apart := false, narrowed := true }
def VoteLaterUptoSaid : Prop := voteLaterUptoRow.holds Try.pinned (OpenSpec.upto voteLaterSpec)

end Rows
end Go.Proofs.Ytfmbgpjpkahmnaa
