/-
  No cell of these rows narrows 'for every input' (looked for: loops, veiled, ifaces, maps, wideKeys, modest, calm, conditions, laid).
  DERIVED. THE GIVEN ROWS OF THIS SEAT. 6 by the template 'for every input the law returns true; each argument reads behind the call as it read before'; 0 by the template 'total and deterministic' (their statements: YtnmljjmaejmlfaaTotals.lean).
  GIVEN WITH THE SEED: the statements are not yours to turn. If you find one false, say at which input.
  Laid BY PROGRAM, IN A SANDBOX (cutbox-rows.mjs): the forced cells as the released guide's own fill.sh prints them over the translation 18447156105c90f0… (all of the seat's roots in one cut). By AI agents, Wed Nov 11 2026. No macro, syntax, notation, axiom, sorry.
-/
import Derived.Test.YtnmljjmaejmlfaaChecked
import GoSem.Claim
import GoSem.ClaimJoined
import GoSem.ClaimMapViews
import Derived.JoinedTies
import Derived.KernelRfl
namespace Go.Proofs.Ytnmljjmaejmlfaa
/- THE CELL 'sum', in the pinned program and in every row, IS THE sha256 OF THE DUMP (.gsa) THAT YtnmljjmaejmlfaaProg.lean LOADS. Nothing in Lean hashes anything: it is a label: what it is worth is what the hold of that sum in a sandbox is worth. -/
noncomputable def Try.pinned : Pinned := { name := "ytnmljjmaejmlfaa", sum := "18447156105c90f066428cbd8440508c62005c6bc9b580a2f8fe272d0b7c4764", checked := Try.checked }
namespace Rows
def none {H : Type} : Left H := { results := [], args := [] }

/-- 'areopaguslaw07.SkipTells': WHATEVER THE INPUT: true; the input reads as it did. -/
def skipTellsSpec : ChangeSpec := { name := "skipTells", fn := fun _ => fun
  | [d1, d2, d3, d4, d5] => { results := [.lit (.bool true)], args := [d1, d2, d3, d4, d5] }
  | _ => none }
def skipTellsRow : OpenClaim := { program := "ytnmljjmaejmlfaa", sum := "18447156105c90f066428cbd8440508c62005c6bc9b580a2f8fe272d0b7c4764", func := "areopagus/areopaguslaw07.SkipTells", spec := "skipTells", unfollowed := true, recurses := true, plainKeys := false, apart := false }
def SkipTellsSaid : Prop := skipTellsRow.holds Try.pinned (OpenSpec.ofChange skipTellsSpec)

/-- ITS FALSE NEIGHBOUR: 'it returns false'. Refute it at one input. -/
def skipTellsWrong : ChangeSpec := { name := "skipTells", fn := fun _ => fun
  | [d1, d2, d3, d4, d5] => { results := [.lit (.bool false)], args := [d1, d2, d3, d4, d5] }
  | _ => none }
def SkipTellsWrongFalsely : Prop := skipTellsRow.holds Try.pinned (OpenSpec.ofChange skipTellsWrong)

/-- 'areopaguslaw07.SkipSame': WHATEVER THE INPUT: true; the input reads as it did. -/
def skipSameSpec : ChangeSpec := { name := "skipSame", fn := fun _ => fun
  | [d1, d2, d3] => { results := [.lit (.bool true)], args := [d1, d2, d3] }
  | _ => none }
def skipSameRow : OpenClaim := { program := "ytnmljjmaejmlfaa", sum := "18447156105c90f066428cbd8440508c62005c6bc9b580a2f8fe272d0b7c4764", func := "areopagus/areopaguslaw07.SkipSame", spec := "skipSame", unfollowed := true, recurses := true, plainKeys := false, apart := false }
def SkipSameSaid : Prop := skipSameRow.holds Try.pinned (OpenSpec.ofChange skipSameSpec)

/-- ITS FALSE NEIGHBOUR: 'it returns false'. Refute it at one input. -/
def skipSameWrong : ChangeSpec := { name := "skipSame", fn := fun _ => fun
  | [d1, d2, d3] => { results := [.lit (.bool false)], args := [d1, d2, d3] }
  | _ => none }
def SkipSameWrongFalsely : Prop := skipSameRow.holds Try.pinned (OpenSpec.ofChange skipSameWrong)

/-- 'areopaguslaw07.SkipParts': WHATEVER THE INPUT: true; the input reads as it did. -/
def skipPartsSpec : ChangeSpec := { name := "skipParts", fn := fun _ => fun
  | [d1, d2, d3, d4] => { results := [.lit (.bool true)], args := [d1, d2, d3, d4] }
  | _ => none }
def skipPartsRow : OpenClaim := { program := "ytnmljjmaejmlfaa", sum := "18447156105c90f066428cbd8440508c62005c6bc9b580a2f8fe272d0b7c4764", func := "areopagus/areopaguslaw07.SkipParts", spec := "skipParts", unfollowed := true, recurses := true, plainKeys := false, apart := false }
def SkipPartsSaid : Prop := skipPartsRow.holds Try.pinned (OpenSpec.ofChange skipPartsSpec)

/-- ITS FALSE NEIGHBOUR: 'it returns false'. Refute it at one input. -/
def skipPartsWrong : ChangeSpec := { name := "skipParts", fn := fun _ => fun
  | [d1, d2, d3, d4] => { results := [.lit (.bool false)], args := [d1, d2, d3, d4] }
  | _ => none }
def SkipPartsWrongFalsely : Prop := skipPartsRow.holds Try.pinned (OpenSpec.ofChange skipPartsWrong)

/-- 'areopaguslaw07.SkipMeet': WHATEVER THE INPUT: true; the input reads as it did. -/
def skipMeetSpec : ChangeSpec := { name := "skipMeet", fn := fun _ => fun
  | [d1, d2, d3, d4] => { results := [.lit (.bool true)], args := [d1, d2, d3, d4] }
  | _ => none }
def skipMeetRow : OpenClaim := { program := "ytnmljjmaejmlfaa", sum := "18447156105c90f066428cbd8440508c62005c6bc9b580a2f8fe272d0b7c4764", func := "areopagus/areopaguslaw07.SkipMeet", spec := "skipMeet", unfollowed := true, recurses := true, plainKeys := false, apart := false }
def SkipMeetSaid : Prop := skipMeetRow.holds Try.pinned (OpenSpec.ofChange skipMeetSpec)

/-- ITS FALSE NEIGHBOUR: 'it returns false'. Refute it at one input. -/
def skipMeetWrong : ChangeSpec := { name := "skipMeet", fn := fun _ => fun
  | [d1, d2, d3, d4] => { results := [.lit (.bool false)], args := [d1, d2, d3, d4] }
  | _ => none }
def SkipMeetWrongFalsely : Prop := skipMeetRow.holds Try.pinned (OpenSpec.ofChange skipMeetWrong)

/-- 'areopaguslaw07.SkipDeep': WHATEVER THE INPUT: true; the input reads as it did. -/
def skipDeepSpec : ChangeSpec := { name := "skipDeep", fn := fun _ => fun
  | [d1, d2, d3] => { results := [.lit (.bool true)], args := [d1, d2, d3] }
  | _ => none }
def skipDeepRow : OpenClaim := { program := "ytnmljjmaejmlfaa", sum := "18447156105c90f066428cbd8440508c62005c6bc9b580a2f8fe272d0b7c4764", func := "areopagus/areopaguslaw07.SkipDeep", spec := "skipDeep", unfollowed := true, recurses := true, plainKeys := false, apart := false }
def SkipDeepSaid : Prop := skipDeepRow.holds Try.pinned (OpenSpec.ofChange skipDeepSpec)

/-- ITS FALSE NEIGHBOUR: 'it returns false'. Refute it at one input. -/
def skipDeepWrong : ChangeSpec := { name := "skipDeep", fn := fun _ => fun
  | [d1, d2, d3] => { results := [.lit (.bool false)], args := [d1, d2, d3] }
  | _ => none }
def SkipDeepWrongFalsely : Prop := skipDeepRow.holds Try.pinned (OpenSpec.ofChange skipDeepWrong)

/-- 'areopaguslaw07.SkipLeaps': WHATEVER THE INPUT: true; the input reads as it did. -/
def skipLeapsSpec : ChangeSpec := { name := "skipLeaps", fn := fun _ => fun
  | [d1, d2, d3] => { results := [.lit (.bool true)], args := [d1, d2, d3] }
  | _ => none }
def skipLeapsRow : OpenClaim := { program := "ytnmljjmaejmlfaa", sum := "18447156105c90f066428cbd8440508c62005c6bc9b580a2f8fe272d0b7c4764", func := "areopagus/areopaguslaw07.SkipLeaps", spec := "skipLeaps", unfollowed := true, recurses := true, plainKeys := false, apart := false }
def SkipLeapsSaid : Prop := skipLeapsRow.holds Try.pinned (OpenSpec.ofChange skipLeapsSpec)

/-- ITS FALSE NEIGHBOUR: 'it returns false'. Refute it at one input. -/
def skipLeapsWrong : ChangeSpec := { name := "skipLeaps", fn := fun _ => fun
  | [d1, d2, d3] => { results := [.lit (.bool false)], args := [d1, d2, d3] }
  | _ => none }
def SkipLeapsWrongFalsely : Prop := skipLeapsRow.holds Try.pinned (OpenSpec.ofChange skipLeapsWrong)

/- THE SECOND FORM. 'bulk': how many values and letters a reading holds, each counted each time it is reached (what is shared counts as often as it is met; a slice's spare places count too). A statement '..UptoSaid' is the law's where the arguments, and the package variables that the reading takes, are together of bulk at most 1048576: NARROWER than '..Said'. Prove '..Said' where nothing that the law and all that it calls make is longer than what came in: it says more and counts as full. Else prove '..UptoSaid'. A law counts once. -/
mutual
def uptoBulk {H : Type} : DataW H → Nat
  | .lit (.string bytes) => bytes.length + 1
  | .lit _ => 1
  | .nil => 1
  | .ptr d => uptoBulk d + 1
  | .slice elems spare => uptoBulkAll elems + uptoBulkAll spare + 1
  | .agg parts => uptoBulkAll parts + 1
  | .iface _ d => uptoBulk d + 1
  | .map entries => uptoBulkEntries entries + 1
  | .held _ => 1
def uptoBulkAll {H : Type} : List (DataW H) → Nat
  | [] => 0
  | d :: r => uptoBulk d + uptoBulkAll r
def uptoBulkEntries {H : Type} : List (Lit × DataW H) → Nat
  | [] => 0
  | x :: r => uptoBulkEntry x + uptoBulkEntries r
def uptoBulkEntry {H : Type} : Lit × DataW H → Nat
  | (.string bytes, d) => bytes.length + uptoBulk d + 1
  | (_, d) => uptoBulk d + 1
 end
def uptoSmall : (H : Type) → List (DataW H) → Bool := fun _ ds => decide (uptoBulkAll ds ≤ 1048576)
def OpenSpec.upto (s : _root_.Go.ChangeSpec) : _root_.Go.OpenSpec := { _root_.Go.OpenSpec.ofChange s with cond := some uptoSmall }

/-- 'areopaguslaw07.SkipTells', WHERE WHAT IT READS IS OF BULK AT MOST 1048576: true; the input reads as it did. -/
def skipTellsUptoRow : OpenClaim := { program := "ytnmljjmaejmlfaa", sum := "18447156105c90f066428cbd8440508c62005c6bc9b580a2f8fe272d0b7c4764", func := "areopagus/areopaguslaw07.SkipTells", spec := "skipTells", unfollowed := true, recurses := true, plainKeys := false, apart := false, narrowed := true }
def SkipTellsUptoSaid : Prop := skipTellsUptoRow.holds Try.pinned (OpenSpec.upto skipTellsSpec)

/-- 'areopaguslaw07.SkipSame', WHERE WHAT IT READS IS OF BULK AT MOST 1048576: true; the input reads as it did. -/
def skipSameUptoRow : OpenClaim := { program := "ytnmljjmaejmlfaa", sum := "18447156105c90f066428cbd8440508c62005c6bc9b580a2f8fe272d0b7c4764", func := "areopagus/areopaguslaw07.SkipSame", spec := "skipSame", unfollowed := true, recurses := true, plainKeys := false, apart := false, narrowed := true }
def SkipSameUptoSaid : Prop := skipSameUptoRow.holds Try.pinned (OpenSpec.upto skipSameSpec)

/-- 'areopaguslaw07.SkipParts', WHERE WHAT IT READS IS OF BULK AT MOST 1048576: true; the input reads as it did. -/
def skipPartsUptoRow : OpenClaim := { program := "ytnmljjmaejmlfaa", sum := "18447156105c90f066428cbd8440508c62005c6bc9b580a2f8fe272d0b7c4764", func := "areopagus/areopaguslaw07.SkipParts", spec := "skipParts", unfollowed := true, recurses := true, plainKeys := false, apart := false, narrowed := true }
def SkipPartsUptoSaid : Prop := skipPartsUptoRow.holds Try.pinned (OpenSpec.upto skipPartsSpec)

/-- 'areopaguslaw07.SkipMeet', WHERE WHAT IT READS IS OF BULK AT MOST 1048576: true; the input reads as it did. -/
def skipMeetUptoRow : OpenClaim := { program := "ytnmljjmaejmlfaa", sum := "18447156105c90f066428cbd8440508c62005c6bc9b580a2f8fe272d0b7c4764", func := "areopagus/areopaguslaw07.SkipMeet", spec := "skipMeet", unfollowed := true, recurses := true, plainKeys := false, apart := false, narrowed := true }
def SkipMeetUptoSaid : Prop := skipMeetUptoRow.holds Try.pinned (OpenSpec.upto skipMeetSpec)

/-- 'areopaguslaw07.SkipDeep', WHERE WHAT IT READS IS OF BULK AT MOST 1048576: true; the input reads as it did. -/
def skipDeepUptoRow : OpenClaim := { program := "ytnmljjmaejmlfaa", sum := "18447156105c90f066428cbd8440508c62005c6bc9b580a2f8fe272d0b7c4764", func := "areopagus/areopaguslaw07.SkipDeep", spec := "skipDeep", unfollowed := true, recurses := true, plainKeys := false, apart := false, narrowed := true }
def SkipDeepUptoSaid : Prop := skipDeepUptoRow.holds Try.pinned (OpenSpec.upto skipDeepSpec)

/-- 'areopaguslaw07.SkipLeaps', WHERE WHAT IT READS IS OF BULK AT MOST 1048576: true; the input reads as it did. -/
def skipLeapsUptoRow : OpenClaim := { program := "ytnmljjmaejmlfaa", sum := "18447156105c90f066428cbd8440508c62005c6bc9b580a2f8fe272d0b7c4764", func := "areopagus/areopaguslaw07.SkipLeaps", spec := "skipLeaps", unfollowed := true, recurses := true, plainKeys := false, apart := false, narrowed := true }
def SkipLeapsUptoSaid : Prop := skipLeapsUptoRow.holds Try.pinned (OpenSpec.upto skipLeapsSpec)

end Rows
end Go.Proofs.Ytnmljjmaejmlfaa
