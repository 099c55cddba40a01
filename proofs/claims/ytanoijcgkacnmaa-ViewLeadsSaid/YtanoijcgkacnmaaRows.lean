/-
  No cell of these rows narrows 'for every input' (looked for: loops, veiled, ifaces, maps, wideKeys, modest, calm, conditions, laid).
  DERIVED. THE GIVEN ROWS OF THIS SEAT. 6 by the template 'for every input the law returns true; each argument reads behind the call as it read before'; 0 by the template 'total and deterministic' (their statements: YtanoijcgkacnmaaTotals.lean).
  GIVEN WITH THE SEED: the statements are not yours to turn. If you find one false, say at which input.
  Laid BY PROGRAM, IN A SANDBOX (cutbox-rows.mjs): the forced cells as the released guide's own fill.sh prints them over the translation fc5a3669f616e20a… (all of the seat's roots in one cut). By AI agents, Wed Nov 11 2026. No macro, syntax, notation, axiom, sorry.
-/
import Derived.Test.YtanoijcgkacnmaaChecked
import GoSem.Claim
import GoSem.ClaimJoined
import GoSem.ClaimMapViews
import Derived.JoinedTies
import Derived.KernelRfl
namespace Go.Proofs.Ytanoijcgkacnmaa
/- THE CELL 'sum', in the pinned program and in every row, IS THE sha256 OF THE DUMP (.gsa) THAT YtanoijcgkacnmaaProg.lean LOADS. Nothing in Lean hashes anything: it is a label: what it is worth is what the hold of that sum in a sandbox is worth. -/
noncomputable def Try.pinned : Pinned := { name := "ytanoijcgkacnmaa", sum := "fc5a3669f616e20ac82cd50df4440bc6ba3adf7f7394a10978942bf10f5e2ba4", checked := Try.checked }
namespace Rows
def none {H : Type} : Left H := { results := [], args := [] }

/-- 'areopaguslaw10.ViewTells': WHATEVER THE INPUT: true; the input reads as it did. -/
def viewTellsSpec : ChangeSpec := { name := "viewTells", fn := fun _ => fun
  | [d1, d2, d3, d4, d5] => { results := [.lit (.bool true)], args := [d1, d2, d3, d4, d5] }
  | _ => none }
def viewTellsRow : OpenClaim := { program := "ytanoijcgkacnmaa", sum := "fc5a3669f616e20ac82cd50df4440bc6ba3adf7f7394a10978942bf10f5e2ba4", func := "areopagus/areopaguslaw10.ViewTells", spec := "viewTells", unfollowed := true, recurses := true, plainKeys := false, apart := false }
def ViewTellsSaid : Prop := viewTellsRow.holds Try.pinned (OpenSpec.ofChange viewTellsSpec)

/-- ITS FALSE NEIGHBOUR: 'it returns false'. Refute it at one input. -/
def viewTellsWrong : ChangeSpec := { name := "viewTells", fn := fun _ => fun
  | [d1, d2, d3, d4, d5] => { results := [.lit (.bool false)], args := [d1, d2, d3, d4, d5] }
  | _ => none }
def ViewTellsWrongFalsely : Prop := viewTellsRow.holds Try.pinned (OpenSpec.ofChange viewTellsWrong)

/-- 'areopaguslaw10.ViewLeads': WHATEVER THE INPUT: true; the input reads as it did. -/
def viewLeadsSpec : ChangeSpec := { name := "viewLeads", fn := fun _ => fun
  | [d1, d2, d3, d4] => { results := [.lit (.bool true)], args := [d1, d2, d3, d4] }
  | _ => none }
def viewLeadsRow : OpenClaim := { program := "ytanoijcgkacnmaa", sum := "fc5a3669f616e20ac82cd50df4440bc6ba3adf7f7394a10978942bf10f5e2ba4", func := "areopagus/areopaguslaw10.ViewLeads", spec := "viewLeads", unfollowed := true, recurses := true, plainKeys := false, apart := false }
def ViewLeadsSaid : Prop := viewLeadsRow.holds Try.pinned (OpenSpec.ofChange viewLeadsSpec)

/-- ITS FALSE NEIGHBOUR: 'it returns false'. Refute it at one input. -/
def viewLeadsWrong : ChangeSpec := { name := "viewLeads", fn := fun _ => fun
  | [d1, d2, d3, d4] => { results := [.lit (.bool false)], args := [d1, d2, d3, d4] }
  | _ => none }
def ViewLeadsWrongFalsely : Prop := viewLeadsRow.holds Try.pinned (OpenSpec.ofChange viewLeadsWrong)

/-- 'areopaguslaw10.ViewLess': WHATEVER THE INPUT: true; the input reads as it did. -/
def viewLessSpec : ChangeSpec := { name := "viewLess", fn := fun _ => fun
  | [d1, d2, d3, d4, d5] => { results := [.lit (.bool true)], args := [d1, d2, d3, d4, d5] }
  | _ => none }
def viewLessRow : OpenClaim := { program := "ytanoijcgkacnmaa", sum := "fc5a3669f616e20ac82cd50df4440bc6ba3adf7f7394a10978942bf10f5e2ba4", func := "areopagus/areopaguslaw10.ViewLess", spec := "viewLess", unfollowed := true, recurses := true, plainKeys := false, apart := false }
def ViewLessSaid : Prop := viewLessRow.holds Try.pinned (OpenSpec.ofChange viewLessSpec)

/-- ITS FALSE NEIGHBOUR: 'it returns false'. Refute it at one input. -/
def viewLessWrong : ChangeSpec := { name := "viewLess", fn := fun _ => fun
  | [d1, d2, d3, d4, d5] => { results := [.lit (.bool false)], args := [d1, d2, d3, d4, d5] }
  | _ => none }
def ViewLessWrongFalsely : Prop := viewLessRow.holds Try.pinned (OpenSpec.ofChange viewLessWrong)

/-- 'areopaguslaw10.ViewFrom': WHATEVER THE INPUT: true; the input reads as it did. -/
def viewFromSpec : ChangeSpec := { name := "viewFrom", fn := fun _ => fun
  | [d1, d2, d3] => { results := [.lit (.bool true)], args := [d1, d2, d3] }
  | _ => none }
def viewFromRow : OpenClaim := { program := "ytanoijcgkacnmaa", sum := "fc5a3669f616e20ac82cd50df4440bc6ba3adf7f7394a10978942bf10f5e2ba4", func := "areopagus/areopaguslaw10.ViewFrom", spec := "viewFrom", unfollowed := true, recurses := true, plainKeys := false, apart := false }
def ViewFromSaid : Prop := viewFromRow.holds Try.pinned (OpenSpec.ofChange viewFromSpec)

/-- ITS FALSE NEIGHBOUR: 'it returns false'. Refute it at one input. -/
def viewFromWrong : ChangeSpec := { name := "viewFrom", fn := fun _ => fun
  | [d1, d2, d3] => { results := [.lit (.bool false)], args := [d1, d2, d3] }
  | _ => none }
def ViewFromWrongFalsely : Prop := viewFromRow.holds Try.pinned (OpenSpec.ofChange viewFromWrong)

/-- 'areopaguslaw10.ViewUp': WHATEVER THE INPUT: true; the input reads as it did. -/
def viewUpSpec : ChangeSpec := { name := "viewUp", fn := fun _ => fun
  | [d1, d2, d3, d4] => { results := [.lit (.bool true)], args := [d1, d2, d3, d4] }
  | _ => none }
def viewUpRow : OpenClaim := { program := "ytanoijcgkacnmaa", sum := "fc5a3669f616e20ac82cd50df4440bc6ba3adf7f7394a10978942bf10f5e2ba4", func := "areopagus/areopaguslaw10.ViewUp", spec := "viewUp", unfollowed := true, recurses := true, plainKeys := false, apart := false }
def ViewUpSaid : Prop := viewUpRow.holds Try.pinned (OpenSpec.ofChange viewUpSpec)

/-- ITS FALSE NEIGHBOUR: 'it returns false'. Refute it at one input. -/
def viewUpWrong : ChangeSpec := { name := "viewUp", fn := fun _ => fun
  | [d1, d2, d3, d4] => { results := [.lit (.bool false)], args := [d1, d2, d3, d4] }
  | _ => none }
def ViewUpWrongFalsely : Prop := viewUpRow.holds Try.pinned (OpenSpec.ofChange viewUpWrong)

/-- 'areopaguslaw10.ViewLeaf': WHATEVER THE INPUT: true; the input reads as it did. -/
def viewLeafSpec : ChangeSpec := { name := "viewLeaf", fn := fun _ => fun
  | [d1, d2, d3, d4] => { results := [.lit (.bool true)], args := [d1, d2, d3, d4] }
  | _ => none }
def viewLeafRow : OpenClaim := { program := "ytanoijcgkacnmaa", sum := "fc5a3669f616e20ac82cd50df4440bc6ba3adf7f7394a10978942bf10f5e2ba4", func := "areopagus/areopaguslaw10.ViewLeaf", spec := "viewLeaf", unfollowed := true, recurses := true, plainKeys := false, apart := false }
def ViewLeafSaid : Prop := viewLeafRow.holds Try.pinned (OpenSpec.ofChange viewLeafSpec)

/-- ITS FALSE NEIGHBOUR: 'it returns false'. Refute it at one input. -/
def viewLeafWrong : ChangeSpec := { name := "viewLeaf", fn := fun _ => fun
  | [d1, d2, d3, d4] => { results := [.lit (.bool false)], args := [d1, d2, d3, d4] }
  | _ => none }
def ViewLeafWrongFalsely : Prop := viewLeafRow.holds Try.pinned (OpenSpec.ofChange viewLeafWrong)

/- THE SECOND FORM. 'bulk': how many values and letters a reading holds, each counted each time it is reached (what is shared counts as often as it is met; a slice's spare places count too). A statement '..UptoSaid' is the law's where the arguments, and the package variables that the reading takes, are together of bulk at most 1048576: NARROWER than '..Said'. Prove '..Said' where nothing that the law and all that it calls make is longer than what came in: it says more and counts as full. Else prove '..UptoSaid'. A law counts once. -/
mutual
def uptoBulk {H : Type} : DataW H → Nat
  | .lit (.string bytes) => bytes.length + 1
  | .lit _ => 1
  | .nil => 1
  | .ptr d => uptoBulk d + 1
  | .slice elems spare => uptoBulkAll elems + uptoBulkAll spare + 1
  | .agg parts => uptoBulkAll parts + 1
  | .iface _ d => uptoBulk d + 1
  | .map entries => uptoBulkEntries entries + 1
  | .held _ => 1
def uptoBulkAll {H : Type} : List (DataW H) → Nat
  | [] => 0
  | d :: r => uptoBulk d + uptoBulkAll r
def uptoBulkEntries {H : Type} : List (Lit × DataW H) → Nat
  | [] => 0
  | x :: r => uptoBulkEntry x + uptoBulkEntries r
def uptoBulkEntry {H : Type} : Lit × DataW H → Nat
  | (.string bytes, d) => bytes.length + uptoBulk d + 1
  | (_, d) => uptoBulk d + 1
 end
def uptoSmall : (H : Type) → List (DataW H) → Bool := fun _ ds => decide (uptoBulkAll ds ≤ 1048576)
def OpenSpec.upto (s : _root_.Go.ChangeSpec) : _root_.Go.OpenSpec := { _root_.Go.OpenSpec.ofChange s with cond := some uptoSmall }

/-- 'areopaguslaw10.ViewTells', WHERE WHAT IT READS IS OF BULK AT MOST 1048576: true; the input reads as it did. -/
def viewTellsUptoRow : OpenClaim := { program := "ytanoijcgkacnmaa", sum := "fc5a3669f616e20ac82cd50df4440bc6ba3adf7f7394a10978942bf10f5e2ba4", func := "areopagus/areopaguslaw10.ViewTells", spec := "viewTells", unfollowed := true, recurses := true, plainKeys := false, apart := false, narrowed := true }
def ViewTellsUptoSaid : Prop := viewTellsUptoRow.holds Try.pinned (OpenSpec.upto viewTellsSpec)

/-- 'areopaguslaw10.ViewLeads', WHERE WHAT IT READS IS OF BULK AT MOST 1048576: true; the input reads as it did. -/
def viewLeadsUptoRow : OpenClaim := { program := "ytanoijcgkacnmaa", sum := "fc5a3669f616e20ac82cd50df4440bc6ba3adf7f7394a10978942bf10f5e2ba4", func := "areopagus/areopaguslaw10.ViewLeads", spec := "viewLeads", unfollowed := true, recurses := true, plainKeys := false, apart := false, narrowed := true }
def ViewLeadsUptoSaid : Prop := viewLeadsUptoRow.holds Try.pinned (OpenSpec.upto viewLeadsSpec)

/-- 'areopaguslaw10.ViewLess', WHERE WHAT IT READS IS OF BULK AT MOST 1048576: true; the input reads as it did. -/
def viewLessUptoRow : OpenClaim := { program := "ytanoijcgkacnmaa", sum := "fc5a3669f616e20ac82cd50df4440bc6ba3adf7f7394a10978942bf10f5e2ba4", func := "areopagus/areopaguslaw10.ViewLess", spec := "viewLess", unfollowed := true, recurses := true, plainKeys := false, apart := false, narrowed := true }
def ViewLessUptoSaid : Prop := viewLessUptoRow.holds Try.pinned (OpenSpec.upto viewLessSpec)

/-- 'areopaguslaw10.ViewFrom', WHERE WHAT IT READS IS OF BULK AT MOST 1048576: true; the input reads as it did. -/
def viewFromUptoRow : OpenClaim := { program := "ytanoijcgkacnmaa", sum := "fc5a3669f616e20ac82cd50df4440bc6ba3adf7f7394a10978942bf10f5e2ba4", func := "areopagus/areopaguslaw10.ViewFrom", spec := "viewFrom", unfollowed := true, recurses := true, plainKeys := false, apart := false, narrowed := true }
def ViewFromUptoSaid : Prop := viewFromUptoRow.holds Try.pinned (OpenSpec.upto viewFromSpec)

/-- 'areopaguslaw10.ViewUp', WHERE WHAT IT READS IS OF BULK AT MOST 1048576: true; the input reads as it did. -/
def viewUpUptoRow : OpenClaim := { program := "ytanoijcgkacnmaa", sum := "fc5a3669f616e20ac82cd50df4440bc6ba3adf7f7394a10978942bf10f5e2ba4", func := "areopagus/areopaguslaw10.ViewUp", spec := "viewUp", unfollowed := true, recurses := true, plainKeys := false, apart := false, narrowed := true }
def ViewUpUptoSaid : Prop := viewUpUptoRow.holds Try.pinned (OpenSpec.upto viewUpSpec)

/-- 'areopaguslaw10.ViewLeaf', WHERE WHAT IT READS IS OF BULK AT MOST 1048576: true; the input reads as it did. -/
def viewLeafUptoRow : OpenClaim := { program := "ytanoijcgkacnmaa", sum := "fc5a3669f616e20ac82cd50df4440bc6ba3adf7f7394a10978942bf10f5e2ba4", func := "areopagus/areopaguslaw10.ViewLeaf", spec := "viewLeaf", unfollowed := true, recurses := true, plainKeys := false, apart := false, narrowed := true }
def ViewLeafUptoSaid : Prop := viewLeafUptoRow.holds Try.pinned (OpenSpec.upto viewLeafSpec)

end Rows
end Go.Proofs.Ytanoijcgkacnmaa
