/-
  No cell of these rows narrows 'for every input' (looked for: loops, veiled, ifaces, maps, wideKeys, modest, calm, conditions, laid).
  DERIVED. THE GIVEN ROWS OF THIS SEAT. 6 by the template 'for every input the law returns true; each argument reads behind the call as it read before'; 0 by the template 'total and deterministic' (their statements: YtkbifcfgcokmlaaTotals.lean).
  GIVEN WITH THE SEED: the statements are not yours to turn. If you find one false, say at which input.
  Laid BY PROGRAM, IN A SANDBOX (cutbox-rows.mjs): the forced cells as the released guide's own fill.sh prints them over the translation 64a5c9db46199441… (all of the seat's roots in one cut). By AI agents, Wed Nov 11 2026. No macro, syntax, notation, axiom, sorry.
-/
import Derived.Test.YtkbifcfgcokmlaaChecked
import GoSem.Claim
import GoSem.ClaimJoined
import GoSem.ClaimMapViews
import Derived.JoinedTies
import Derived.KernelRfl
namespace Go.Proofs.Ytkbifcfgcokmlaa
/- THE CELL 'sum', in the pinned program and in every row, IS THE sha256 OF THE DUMP (.gsa) THAT YtkbifcfgcokmlaaProg.lean LOADS. Nothing in Lean hashes anything: it is a label: what it is worth is what the hold of that sum in a sandbox is worth. -/
noncomputable def Try.pinned : Pinned := { name := "ytkbifcfgcokmlaa", sum := "64a5c9db4619944113c9290cf7f382a176671141065c384fecf0c44a5b71d768", checked := Try.checked }
namespace Rows
def none {H : Type} : Left H := { results := [], args := [] }

/-- 'areopaguslaw15.LinkTells': WHATEVER THE INPUT: true; the input reads as it did. -/
def linkTellsSpec : ChangeSpec := { name := "linkTells", fn := fun _ => fun
  | [d1, d2, d3, d4, d5] => { results := [.lit (.bool true)], args := [d1, d2, d3, d4, d5] }
  | _ => none }
def linkTellsRow : OpenClaim := { program := "ytkbifcfgcokmlaa", sum := "64a5c9db4619944113c9290cf7f382a176671141065c384fecf0c44a5b71d768", func := "areopagus/areopaguslaw15.LinkTells", spec := "linkTells", unfollowed := true, recurses := true, plainKeys := false, apart := false }
def LinkTellsSaid : Prop := linkTellsRow.holds Try.pinned (OpenSpec.ofChange linkTellsSpec)

/-- ITS FALSE NEIGHBOUR: 'it returns false'. Refute it at one input. -/
def linkTellsWrong : ChangeSpec := { name := "linkTells", fn := fun _ => fun
  | [d1, d2, d3, d4, d5] => { results := [.lit (.bool false)], args := [d1, d2, d3, d4, d5] }
  | _ => none }
def LinkTellsWrongFalsely : Prop := linkTellsRow.holds Try.pinned (OpenSpec.ofChange linkTellsWrong)

/-- 'areopaguslaw15.LinkPut': WHATEVER THE INPUT: true; the input reads as it did. -/
def linkPutSpec : ChangeSpec := { name := "linkPut", fn := fun _ => fun
  | [d1, d2, d3, d4] => { results := [.lit (.bool true)], args := [d1, d2, d3, d4] }
  | _ => none }
def linkPutRow : OpenClaim := { program := "ytkbifcfgcokmlaa", sum := "64a5c9db4619944113c9290cf7f382a176671141065c384fecf0c44a5b71d768", func := "areopagus/areopaguslaw15.LinkPut", spec := "linkPut", unfollowed := true, recurses := true, plainKeys := false, apart := false }
def LinkPutSaid : Prop := linkPutRow.holds Try.pinned (OpenSpec.ofChange linkPutSpec)

/-- ITS FALSE NEIGHBOUR: 'it returns false'. Refute it at one input. -/
def linkPutWrong : ChangeSpec := { name := "linkPut", fn := fun _ => fun
  | [d1, d2, d3, d4] => { results := [.lit (.bool false)], args := [d1, d2, d3, d4] }
  | _ => none }
def LinkPutWrongFalsely : Prop := linkPutRow.holds Try.pinned (OpenSpec.ofChange linkPutWrong)

/-- 'areopaguslaw15.LinkGuilty': WHATEVER THE INPUT: true; the input reads as it did. -/
def linkGuiltySpec : ChangeSpec := { name := "linkGuilty", fn := fun _ => fun
  | [d1, d2, d3] => { results := [.lit (.bool true)], args := [d1, d2, d3] }
  | _ => none }
def linkGuiltyRow : OpenClaim := { program := "ytkbifcfgcokmlaa", sum := "64a5c9db4619944113c9290cf7f382a176671141065c384fecf0c44a5b71d768", func := "areopagus/areopaguslaw15.LinkGuilty", spec := "linkGuilty", unfollowed := true, recurses := true, plainKeys := false, apart := false }
def LinkGuiltySaid : Prop := linkGuiltyRow.holds Try.pinned (OpenSpec.ofChange linkGuiltySpec)

/-- ITS FALSE NEIGHBOUR: 'it returns false'. Refute it at one input. -/
def linkGuiltyWrong : ChangeSpec := { name := "linkGuilty", fn := fun _ => fun
  | [d1, d2, d3] => { results := [.lit (.bool false)], args := [d1, d2, d3] }
  | _ => none }
def LinkGuiltyWrongFalsely : Prop := linkGuiltyRow.holds Try.pinned (OpenSpec.ofChange linkGuiltyWrong)

/-- 'areopaguslaw15.LinkClash': WHATEVER THE INPUT: true; the input reads as it did. -/
def linkClashSpec : ChangeSpec := { name := "linkClash", fn := fun _ => fun
  | [d1, d2] => { results := [.lit (.bool true)], args := [d1, d2] }
  | _ => none }
def linkClashRow : OpenClaim := { program := "ytkbifcfgcokmlaa", sum := "64a5c9db4619944113c9290cf7f382a176671141065c384fecf0c44a5b71d768", func := "areopagus/areopaguslaw15.LinkClash", spec := "linkClash", unfollowed := true, recurses := true, plainKeys := false, apart := false }
def LinkClashSaid : Prop := linkClashRow.holds Try.pinned (OpenSpec.ofChange linkClashSpec)

/-- ITS FALSE NEIGHBOUR: 'it returns false'. Refute it at one input. -/
def linkClashWrong : ChangeSpec := { name := "linkClash", fn := fun _ => fun
  | [d1, d2] => { results := [.lit (.bool false)], args := [d1, d2] }
  | _ => none }
def LinkClashWrongFalsely : Prop := linkClashRow.holds Try.pinned (OpenSpec.ofChange linkClashWrong)

/-- 'areopaguslaw15.LinkTurned': WHATEVER THE INPUT: true; the input reads as it did. -/
def linkTurnedSpec : ChangeSpec := { name := "linkTurned", fn := fun _ => fun
  | [d] => { results := [.lit (.bool true)], args := [d] }
  | _ => none }
def linkTurnedRow : OpenClaim := { program := "ytkbifcfgcokmlaa", sum := "64a5c9db4619944113c9290cf7f382a176671141065c384fecf0c44a5b71d768", func := "areopagus/areopaguslaw15.LinkTurned", spec := "linkTurned", unfollowed := true, recurses := true, plainKeys := false, apart := false }
def LinkTurnedSaid : Prop := linkTurnedRow.holds Try.pinned (OpenSpec.ofChange linkTurnedSpec)

/-- ITS FALSE NEIGHBOUR: 'it returns false'. Refute it at one input. -/
def linkTurnedWrong : ChangeSpec := { name := "linkTurned", fn := fun _ => fun
  | [d] => { results := [.lit (.bool false)], args := [d] }
  | _ => none }
def LinkTurnedWrongFalsely : Prop := linkTurnedRow.holds Try.pinned (OpenSpec.ofChange linkTurnedWrong)

/-- 'areopaguslaw15.LinkHonest': WHATEVER THE INPUT: true; the input reads as it did. -/
def linkHonestSpec : ChangeSpec := { name := "linkHonest", fn := fun _ => fun
  | [d1, d2] => { results := [.lit (.bool true)], args := [d1, d2] }
  | _ => none }
def linkHonestRow : OpenClaim := { program := "ytkbifcfgcokmlaa", sum := "64a5c9db4619944113c9290cf7f382a176671141065c384fecf0c44a5b71d768", func := "areopagus/areopaguslaw15.LinkHonest", spec := "linkHonest", unfollowed := true, recurses := true, plainKeys := false, apart := false }
def LinkHonestSaid : Prop := linkHonestRow.holds Try.pinned (OpenSpec.ofChange linkHonestSpec)

/-- ITS FALSE NEIGHBOUR: 'it returns false'. Refute it at one input. -/
def linkHonestWrong : ChangeSpec := { name := "linkHonest", fn := fun _ => fun
  | [d1, d2] => { results := [.lit (.bool false)], args := [d1, d2] }
  | _ => none }
def LinkHonestWrongFalsely : Prop := linkHonestRow.holds Try.pinned (OpenSpec.ofChange linkHonestWrong)

/- THE SECOND FORM. 'bulk': how many values and letters a reading holds, each counted each time it is reached (what is shared counts as often as it is met; a slice's spare places count too). A statement '..UptoSaid' is the law's where the arguments, and the package variables that the reading takes, are together of bulk at most 1048576: NARROWER than '..Said'. Prove '..Said' where nothing that the law and all that it calls make is longer than what came in: it says more and counts as full. Else prove '..UptoSaid'. A law counts once. -/
mutual
def uptoBulk {H : Type} : DataW H → Nat
  | .lit (.string bytes) => bytes.length + 1
  | .lit _ => 1
  | .nil => 1
  | .ptr d => uptoBulk d + 1
  | .slice elems spare => uptoBulkAll elems + uptoBulkAll spare + 1
  | .agg parts => uptoBulkAll parts + 1
  | .iface _ d => uptoBulk d + 1
  | .map entries => uptoBulkEntries entries + 1
  | .held _ => 1
def uptoBulkAll {H : Type} : List (DataW H) → Nat
  | [] => 0
  | d :: r => uptoBulk d + uptoBulkAll r
def uptoBulkEntries {H : Type} : List (Lit × DataW H) → Nat
  | [] => 0
  | x :: r => uptoBulkEntry x + uptoBulkEntries r
def uptoBulkEntry {H : Type} : Lit × DataW H → Nat
  | (.string bytes, d) => bytes.length + uptoBulk d + 1
  | (_, d) => uptoBulk d + 1
 end
def uptoSmall : (H : Type) → List (DataW H) → Bool := fun _ ds => decide (uptoBulkAll ds ≤ 1048576)
def OpenSpec.upto (s : _root_.Go.ChangeSpec) : _root_.Go.OpenSpec := { _root_.Go.OpenSpec.ofChange s with cond := some uptoSmall }

/-- 'areopaguslaw15.LinkTells', WHERE WHAT IT READS IS OF BULK AT MOST 1048576: true; the input reads as it did. -/
def linkTellsUptoRow : OpenClaim := { program := "ytkbifcfgcokmlaa", sum := "64a5c9db4619944113c9290cf7f382a176671141065c384fecf0c44a5b71d768", func := "areopagus/areopaguslaw15.LinkTells", spec := "linkTells", unfollowed := true, recurses := true, plainKeys := false, apart := false, narrowed := true }
def LinkTellsUptoSaid : Prop := linkTellsUptoRow.holds Try.pinned (OpenSpec.upto linkTellsSpec)

/-- 'areopaguslaw15.LinkPut', WHERE WHAT IT READS IS OF BULK AT MOST 1048576: true; the input reads as it did. -/
def linkPutUptoRow : OpenClaim := { program := "ytkbifcfgcokmlaa", sum := "64a5c9db4619944113c9290cf7f382a176671141065c384fecf0c44a5b71d768", func := "areopagus/areopaguslaw15.LinkPut", spec := "linkPut", unfollowed := true, recurses := true, plainKeys := false, apart := false, narrowed := true }
def LinkPutUptoSaid : Prop := linkPutUptoRow.holds Try.pinned (OpenSpec.upto linkPutSpec)

/-- 'areopaguslaw15.LinkGuilty', WHERE WHAT IT READS IS OF BULK AT MOST 1048576: true; the input reads as it did. -/
def linkGuiltyUptoRow : OpenClaim := { program := "ytkbifcfgcokmlaa", sum := "64a5c9db4619944113c9290cf7f382a176671141065c384fecf0c44a5b71d768", func := "areopagus/areopaguslaw15.LinkGuilty", spec := "linkGuilty", unfollowed := true, recurses := true, plainKeys := false, apart := false, narrowed := true }
def LinkGuiltyUptoSaid : Prop := linkGuiltyUptoRow.holds Try.pinned (OpenSpec.upto linkGuiltySpec)

/-- 'areopaguslaw15.LinkClash', WHERE WHAT IT READS IS OF BULK AT MOST 1048576: true; the input reads as it did. -/
def linkClashUptoRow : OpenClaim := { program := "ytkbifcfgcokmlaa", sum := "64a5c9db4619944113c9290cf7f382a176671141065c384fecf0c44a5b71d768", func := "areopagus/areopaguslaw15.LinkClash", spec := "linkClash", unfollowed := true, recurses := true, plainKeys := false, apart := false, narrowed := true }
def LinkClashUptoSaid : Prop := linkClashUptoRow.holds Try.pinned (OpenSpec.upto linkClashSpec)

/-- 'areopaguslaw15.LinkTurned', WHERE WHAT IT READS IS OF BULK AT MOST 1048576: true; the input reads as it did. -/
def linkTurnedUptoRow : OpenClaim := { program := "ytkbifcfgcokmlaa", sum := "64a5c9db4619944113c9290cf7f382a176671141065c384fecf0c44a5b71d768", func := "areopagus/areopaguslaw15.LinkTurned", spec := "linkTurned", unfollowed := true, recurses := true, plainKeys := false, apart := false, narrowed := true }
def LinkTurnedUptoSaid : Prop := linkTurnedUptoRow.holds Try.pinned (OpenSpec.upto linkTurnedSpec)

/-- 'areopaguslaw15.LinkHonest', WHERE WHAT IT READS IS OF BULK AT MOST 1048576: true; the input reads as it did. -/
def linkHonestUptoRow : OpenClaim := { program := "ytkbifcfgcokmlaa", sum := "64a5c9db4619944113c9290cf7f382a176671141065c384fecf0c44a5b71d768", func := "areopagus/areopaguslaw15.LinkHonest", spec := "linkHonest", unfollowed := true, recurses := true, plainKeys := false, apart := false, narrowed := true }
def LinkHonestUptoSaid : Prop := linkHonestUptoRow.holds Try.pinned (OpenSpec.upto linkHonestSpec)

end Rows
end Go.Proofs.Ytkbifcfgcokmlaa
