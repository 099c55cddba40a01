/-
  No cell of these rows narrows 'for every input' (looked for: loops, veiled, ifaces, maps, wideKeys, modest, calm, conditions, laid).
  DERIVED. THE GIVEN ROWS OF THIS SEAT. 5 by the template 'for every input the law returns true; each argument reads behind the call as it read before'; 0 by the template 'total and deterministic' (their statements: YtljehgohcchocaaTotals.lean).
  GIVEN WITH THE SEED: the statements are not yours to turn. If you find one false, say at which input.
  Laid BY PROGRAM, IN A SANDBOX (cutbox-rows.mjs): the forced cells as the released guide's own fill.sh prints them over the translation a470aab429c6d785… (all of the seat's roots in one cut). By AI agents, Wed Nov 11 2026. No macro, syntax, notation, axiom, sorry.
-/
import Derived.Test.YtljehgohcchocaaChecked
import GoSem.Claim
import GoSem.ClaimJoined
import GoSem.ClaimMapViews
import Derived.JoinedTies
import Derived.KernelRfl
namespace Go.Proofs.Ytljehgohcchocaa
/- THE CELL 'sum', in the pinned program and in every row, IS THE sha256 OF THE DUMP (.gsa) THAT YtljehgohcchocaaProg.lean LOADS. Nothing in Lean hashes anything: it is a label: what it is worth is what the hold of that sum in a sandbox is worth. -/
noncomputable def Try.pinned : Pinned := { name := "ytljehgohcchocaa", sum := "a470aab429c6d7851fcbaf5d6f1e69f640122bfa8af316198ff8fa5107e665ab", checked := Try.checked }
namespace Rows
def none {H : Type} : Left H := { results := [], args := [] }

/-- 'areopaguslaw13.LateTells': WHATEVER THE INPUT: true; the input reads as it did. -/
def lateTellsSpec : ChangeSpec := { name := "lateTells", fn := fun _ => fun
  | [d1, d2, d3, d4] => { results := [.lit (.bool true)], args := [d1, d2, d3, d4] }
  | _ => none }
def lateTellsRow : OpenClaim := { program := "ytljehgohcchocaa", sum := "a470aab429c6d7851fcbaf5d6f1e69f640122bfa8af316198ff8fa5107e665ab", func := "areopagus/areopaguslaw13.LateTells", spec := "lateTells", unfollowed := true, recurses := true, apart := false }
def LateTellsSaid : Prop := lateTellsRow.holds Try.pinned (OpenSpec.ofChange lateTellsSpec)

/-- ITS FALSE NEIGHBOUR: 'it returns false'. Refute it at one input. -/
def lateTellsWrong : ChangeSpec := { name := "lateTells", fn := fun _ => fun
  | [d1, d2, d3, d4] => { results := [.lit (.bool false)], args := [d1, d2, d3, d4] }
  | _ => none }
def LateTellsWrongFalsely : Prop := lateTellsRow.holds Try.pinned (OpenSpec.ofChange lateTellsWrong)

/-- 'areopaguslaw13.LateDue': WHATEVER THE INPUT: true; the input reads as it did. -/
def lateDueSpec : ChangeSpec := { name := "lateDue", fn := fun _ => fun
  | [d1, d2, d3] => { results := [.lit (.bool true)], args := [d1, d2, d3] }
  | _ => none }
def lateDueRow : OpenClaim := { program := "ytljehgohcchocaa", sum := "a470aab429c6d7851fcbaf5d6f1e69f640122bfa8af316198ff8fa5107e665ab", func := "areopagus/areopaguslaw13.LateDue", spec := "lateDue", unfollowed := true, recurses := true, apart := false }
def LateDueSaid : Prop := lateDueRow.holds Try.pinned (OpenSpec.ofChange lateDueSpec)

/-- ITS FALSE NEIGHBOUR: 'it returns false'. Refute it at one input. -/
def lateDueWrong : ChangeSpec := { name := "lateDue", fn := fun _ => fun
  | [d1, d2, d3] => { results := [.lit (.bool false)], args := [d1, d2, d3] }
  | _ => none }
def LateDueWrongFalsely : Prop := lateDueRow.holds Try.pinned (OpenSpec.ofChange lateDueWrong)

/-- 'areopaguslaw13.LatePut': WHATEVER THE INPUT: true; the input reads as it did. -/
def latePutSpec : ChangeSpec := { name := "latePut", fn := fun _ => fun
  | [d1, d2] => { results := [.lit (.bool true)], args := [d1, d2] }
  | _ => none }
def latePutRow : OpenClaim := { program := "ytljehgohcchocaa", sum := "a470aab429c6d7851fcbaf5d6f1e69f640122bfa8af316198ff8fa5107e665ab", func := "areopagus/areopaguslaw13.LatePut", spec := "latePut", unfollowed := true, recurses := true, apart := false }
def LatePutSaid : Prop := latePutRow.holds Try.pinned (OpenSpec.ofChange latePutSpec)

/-- ITS FALSE NEIGHBOUR: 'it returns false'. Refute it at one input. -/
def latePutWrong : ChangeSpec := { name := "latePut", fn := fun _ => fun
  | [d1, d2] => { results := [.lit (.bool false)], args := [d1, d2] }
  | _ => none }
def LatePutWrongFalsely : Prop := latePutRow.holds Try.pinned (OpenSpec.ofChange latePutWrong)

/-- 'areopaguslaw13.LateParts': WHATEVER THE INPUT: true; the input reads as it did. -/
def latePartsSpec : ChangeSpec := { name := "lateParts", fn := fun _ => fun
  | [d1, d2, d3] => { results := [.lit (.bool true)], args := [d1, d2, d3] }
  | _ => none }
def latePartsRow : OpenClaim := { program := "ytljehgohcchocaa", sum := "a470aab429c6d7851fcbaf5d6f1e69f640122bfa8af316198ff8fa5107e665ab", func := "areopagus/areopaguslaw13.LateParts", spec := "lateParts", unfollowed := true, recurses := true, apart := false }
def LatePartsSaid : Prop := latePartsRow.holds Try.pinned (OpenSpec.ofChange latePartsSpec)

/-- ITS FALSE NEIGHBOUR: 'it returns false'. Refute it at one input. -/
def latePartsWrong : ChangeSpec := { name := "lateParts", fn := fun _ => fun
  | [d1, d2, d3] => { results := [.lit (.bool false)], args := [d1, d2, d3] }
  | _ => none }
def LatePartsWrongFalsely : Prop := latePartsRow.holds Try.pinned (OpenSpec.ofChange latePartsWrong)

/-- 'areopaguslaw13.LateNone': WHATEVER THE INPUT: true; the input reads as it did. -/
def lateNoneSpec : ChangeSpec := { name := "lateNone", fn := fun _ => fun
  | [d1, d2, d3] => { results := [.lit (.bool true)], args := [d1, d2, d3] }
  | _ => none }
def lateNoneRow : OpenClaim := { program := "ytljehgohcchocaa", sum := "a470aab429c6d7851fcbaf5d6f1e69f640122bfa8af316198ff8fa5107e665ab", func := "areopagus/areopaguslaw13.LateNone", spec := "lateNone", unfollowed := true, recurses := true, apart := false }
def LateNoneSaid : Prop := lateNoneRow.holds Try.pinned (OpenSpec.ofChange lateNoneSpec)

/-- ITS FALSE NEIGHBOUR: 'it returns false'. Refute it at one input. -/
def lateNoneWrong : ChangeSpec := { name := "lateNone", fn := fun _ => fun
  | [d1, d2, d3] => { results := [.lit (.bool false)], args := [d1, d2, d3] }
  | _ => none }
def LateNoneWrongFalsely : Prop := lateNoneRow.holds Try.pinned (OpenSpec.ofChange lateNoneWrong)

/- THE SECOND FORM. 'bulk': how many values and letters a reading holds, each counted each time it is reached (what is shared counts as often as it is met; a slice's spare places count too). A statement '..UptoSaid' is the law's where the arguments, and the package variables that the reading takes, are together of bulk at most 1048576: NARROWER than '..Said'. Prove '..Said' where nothing that the law and all that it calls make is longer than what came in: it says more and counts as full. Else prove '..UptoSaid'. A law counts once. -/
mutual
def uptoBulk {H : Type} : DataW H → Nat
  | .lit (.string bytes) => bytes.length + 1
  | .lit _ => 1
  | .nil => 1
  | .ptr d => uptoBulk d + 1
  | .slice elems spare => uptoBulkAll elems + uptoBulkAll spare + 1
  | .agg parts => uptoBulkAll parts + 1
  | .iface _ d => uptoBulk d + 1
  | .map entries => uptoBulkEntries entries + 1
  | .held _ => 1
def uptoBulkAll {H : Type} : List (DataW H) → Nat
  | [] => 0
  | d :: r => uptoBulk d + uptoBulkAll r
def uptoBulkEntries {H : Type} : List (Lit × DataW H) → Nat
  | [] => 0
  | x :: r => uptoBulkEntry x + uptoBulkEntries r
def uptoBulkEntry {H : Type} : Lit × DataW H → Nat
  | (.string bytes, d) => bytes.length + uptoBulk d + 1
  | (_, d) => uptoBulk d + 1
 end
def uptoSmall : (H : Type) → List (DataW H) → Bool := fun _ ds => decide (uptoBulkAll ds ≤ 1048576)
def OpenSpec.upto (s : _root_.Go.ChangeSpec) : _root_.Go.OpenSpec := { _root_.Go.OpenSpec.ofChange s with cond := some uptoSmall }

/-- 'areopaguslaw13.LateTells', WHERE WHAT IT READS IS OF BULK AT MOST 1048576: true; the input reads as it did. -/
def lateTellsUptoRow : OpenClaim := { program := "ytljehgohcchocaa", sum := "a470aab429c6d7851fcbaf5d6f1e69f640122bfa8af316198ff8fa5107e665ab", func := "areopagus/areopaguslaw13.LateTells", spec := "lateTells", unfollowed := true, recurses := true, apart := false, narrowed := true }
def LateTellsUptoSaid : Prop := lateTellsUptoRow.holds Try.pinned (OpenSpec.upto lateTellsSpec)

/-- 'areopaguslaw13.LateDue', WHERE WHAT IT READS IS OF BULK AT MOST 1048576: true; the input reads as it did. -/
def lateDueUptoRow : OpenClaim := { program := "ytljehgohcchocaa", sum := "a470aab429c6d7851fcbaf5d6f1e69f640122bfa8af316198ff8fa5107e665ab", func := "areopagus/areopaguslaw13.LateDue", spec := "lateDue", unfollowed := true, recurses := true, apart := false, narrowed := true }
def LateDueUptoSaid : Prop := lateDueUptoRow.holds Try.pinned (OpenSpec.upto lateDueSpec)

/-- 'areopaguslaw13.LatePut', WHERE WHAT IT READS IS OF BULK AT MOST 1048576: true; the input reads as it did. -/
def latePutUptoRow : OpenClaim := { program := "ytljehgohcchocaa", sum := "a470aab429c6d7851fcbaf5d6f1e69f640122bfa8af316198ff8fa5107e665ab", func := "areopagus/areopaguslaw13.LatePut", spec := "latePut", unfollowed := true, recurses := true, apart := false, narrowed := true }
def LatePutUptoSaid : Prop := latePutUptoRow.holds Try.pinned (OpenSpec.upto latePutSpec)

/-- 'areopaguslaw13.LateParts', WHERE WHAT IT READS IS OF BULK AT MOST 1048576: true; the input reads as it did. -/
def latePartsUptoRow : OpenClaim := { program := "ytljehgohcchocaa", sum := "a470aab429c6d7851fcbaf5d6f1e69f640122bfa8af316198ff8fa5107e665ab", func := "areopagus/areopaguslaw13.LateParts", spec := "lateParts", unfollowed := true, recurses := true, apart := false, narrowed := true }
def LatePartsUptoSaid : Prop := latePartsUptoRow.holds Try.pinned (OpenSpec.upto latePartsSpec)

/-- 'areopaguslaw13.LateNone', WHERE WHAT IT READS IS OF BULK AT MOST 1048576: true; the input reads as it did. -/
def lateNoneUptoRow : OpenClaim := { program := "ytljehgohcchocaa", sum := "a470aab429c6d7851fcbaf5d6f1e69f640122bfa8af316198ff8fa5107e665ab", func := "areopagus/areopaguslaw13.LateNone", spec := "lateNone", unfollowed := true, recurses := true, apart := false, narrowed := true }
def LateNoneUptoSaid : Prop := lateNoneUptoRow.holds Try.pinned (OpenSpec.upto lateNoneSpec)

end Rows
end Go.Proofs.Ytljehgohcchocaa
