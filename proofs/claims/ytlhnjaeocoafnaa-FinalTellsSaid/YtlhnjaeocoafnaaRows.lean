/-
  No cell of these rows narrows 'for every input' (looked for: loops, veiled, ifaces, maps, wideKeys, modest, calm, conditions, laid).
  DERIVED. THE GIVEN ROWS OF THIS SEAT. 6 by the template 'for every input the law returns true; each argument reads behind the call as it read before'; 0 by the template 'total and deterministic' (their statements: YtlhnjaeocoafnaaTotals.lean).
  GIVEN WITH THE SEED: the statements are not yours to turn. If you find one false, say at which input.
  Laid BY PROGRAM, IN A SANDBOX (cutbox-rows.mjs): the forced cells as the released guide's own fill.sh prints them over the translation f0e9b2992c7b7500… (all of the seat's roots in one cut). By AI agents, Wed Nov 11 2026. No macro, syntax, notation, axiom, sorry.
-/
import Derived.Test.YtlhnjaeocoafnaaChecked
import GoSem.Claim
import GoSem.ClaimJoined
import GoSem.ClaimMapViews
import Derived.JoinedTies
import Derived.KernelRfl
namespace Go.Proofs.Ytlhnjaeocoafnaa
/- THE CELL 'sum', in the pinned program and in every row, IS THE sha256 OF THE DUMP (.gsa) THAT YtlhnjaeocoafnaaProg.lean LOADS. Nothing in Lean hashes anything: it is a label: what it is worth is what the hold of that sum in a sandbox is worth. -/
noncomputable def Try.pinned : Pinned := { name := "ytlhnjaeocoafnaa", sum := "f0e9b2992c7b7500340eacd663bc064ce48c976b7d866f491e4edd89540f1372", checked := Try.checked }
namespace Rows
def none {H : Type} : Left H := { results := [], args := [] }

/-- 'areopaguslaw16.FinalTells': WHATEVER THE INPUT: true; the input reads as it did. -/
def finalTellsSpec : ChangeSpec := { name := "finalTells", fn := fun _ => fun
  | [d1, d2, d3, d4, d5] => { results := [.lit (.bool true)], args := [d1, d2, d3, d4, d5] }
  | _ => none }
def finalTellsRow : OpenClaim := { program := "ytlhnjaeocoafnaa", sum := "f0e9b2992c7b7500340eacd663bc064ce48c976b7d866f491e4edd89540f1372", func := "areopagus/areopaguslaw16.FinalTells", spec := "finalTells", unfollowed := true, recurses := true, plainKeys := false, apart := false }
def FinalTellsSaid : Prop := finalTellsRow.holds Try.pinned (OpenSpec.ofChange finalTellsSpec)

/-- ITS FALSE NEIGHBOUR: 'it returns false'. Refute it at one input. -/
def finalTellsWrong : ChangeSpec := { name := "finalTells", fn := fun _ => fun
  | [d1, d2, d3, d4, d5] => { results := [.lit (.bool false)], args := [d1, d2, d3, d4, d5] }
  | _ => none }
def FinalTellsWrongFalsely : Prop := finalTellsRow.holds Try.pinned (OpenSpec.ofChange finalTellsWrong)

/-- 'areopaguslaw16.FinalSafe': WHATEVER THE INPUT: true; the input reads as it did. -/
def finalSafeSpec : ChangeSpec := { name := "finalSafe", fn := fun _ => fun
  | [d1, d2, d3, d4] => { results := [.lit (.bool true)], args := [d1, d2, d3, d4] }
  | _ => none }
def finalSafeRow : OpenClaim := { program := "ytlhnjaeocoafnaa", sum := "f0e9b2992c7b7500340eacd663bc064ce48c976b7d866f491e4edd89540f1372", func := "areopagus/areopaguslaw16.FinalSafe", spec := "finalSafe", unfollowed := true, recurses := true, plainKeys := false, apart := false }
def FinalSafeSaid : Prop := finalSafeRow.holds Try.pinned (OpenSpec.ofChange finalSafeSpec)

/-- ITS FALSE NEIGHBOUR: 'it returns false'. Refute it at one input. -/
def finalSafeWrong : ChangeSpec := { name := "finalSafe", fn := fun _ => fun
  | [d1, d2, d3, d4] => { results := [.lit (.bool false)], args := [d1, d2, d3, d4] }
  | _ => none }
def FinalSafeWrongFalsely : Prop := finalSafeRow.holds Try.pinned (OpenSpec.ofChange finalSafeWrong)

/-- 'areopaguslaw16.FinalNext': WHATEVER THE INPUT: true; the input reads as it did. -/
def finalNextSpec : ChangeSpec := { name := "finalNext", fn := fun _ => fun
  | [d1, d2, d3, d4, d5] => { results := [.lit (.bool true)], args := [d1, d2, d3, d4, d5] }
  | _ => none }
def finalNextRow : OpenClaim := { program := "ytlhnjaeocoafnaa", sum := "f0e9b2992c7b7500340eacd663bc064ce48c976b7d866f491e4edd89540f1372", func := "areopagus/areopaguslaw16.FinalNext", spec := "finalNext", unfollowed := true, recurses := true, plainKeys := false, apart := false }
def FinalNextSaid : Prop := finalNextRow.holds Try.pinned (OpenSpec.ofChange finalNextSpec)

/-- ITS FALSE NEIGHBOUR: 'it returns false'. Refute it at one input. -/
def finalNextWrong : ChangeSpec := { name := "finalNext", fn := fun _ => fun
  | [d1, d2, d3, d4, d5] => { results := [.lit (.bool false)], args := [d1, d2, d3, d4, d5] }
  | _ => none }
def FinalNextWrongFalsely : Prop := finalNextRow.holds Try.pinned (OpenSpec.ofChange finalNextWrong)

/-- 'areopaguslaw16.FinalBest': WHATEVER THE INPUT: true; the input reads as it did. -/
def finalBestSpec : ChangeSpec := { name := "finalBest", fn := fun _ => fun
  | [d1, d2, d3, d4] => { results := [.lit (.bool true)], args := [d1, d2, d3, d4] }
  | _ => none }
def finalBestRow : OpenClaim := { program := "ytlhnjaeocoafnaa", sum := "f0e9b2992c7b7500340eacd663bc064ce48c976b7d866f491e4edd89540f1372", func := "areopagus/areopaguslaw16.FinalBest", spec := "finalBest", unfollowed := true, recurses := true, plainKeys := false, apart := false }
def FinalBestSaid : Prop := finalBestRow.holds Try.pinned (OpenSpec.ofChange finalBestSpec)

/-- ITS FALSE NEIGHBOUR: 'it returns false'. Refute it at one input. -/
def finalBestWrong : ChangeSpec := { name := "finalBest", fn := fun _ => fun
  | [d1, d2, d3, d4] => { results := [.lit (.bool false)], args := [d1, d2, d3, d4] }
  | _ => none }
def FinalBestWrongFalsely : Prop := finalBestRow.holds Try.pinned (OpenSpec.ofChange finalBestWrong)

/-- 'areopaguslaw16.FinalNone': WHATEVER THE INPUT: true; the input reads as it did. -/
def finalNoneSpec : ChangeSpec := { name := "finalNone", fn := fun _ => fun
  | [d1, d2, d3, d4] => { results := [.lit (.bool true)], args := [d1, d2, d3, d4] }
  | _ => none }
def finalNoneRow : OpenClaim := { program := "ytlhnjaeocoafnaa", sum := "f0e9b2992c7b7500340eacd663bc064ce48c976b7d866f491e4edd89540f1372", func := "areopagus/areopaguslaw16.FinalNone", spec := "finalNone", unfollowed := true, recurses := true, plainKeys := false, apart := false }
def FinalNoneSaid : Prop := finalNoneRow.holds Try.pinned (OpenSpec.ofChange finalNoneSpec)

/-- ITS FALSE NEIGHBOUR: 'it returns false'. Refute it at one input. -/
def finalNoneWrong : ChangeSpec := { name := "finalNone", fn := fun _ => fun
  | [d1, d2, d3, d4] => { results := [.lit (.bool false)], args := [d1, d2, d3, d4] }
  | _ => none }
def FinalNoneWrongFalsely : Prop := finalNoneRow.holds Try.pinned (OpenSpec.ofChange finalNoneWrong)

/-- 'areopaguslaw16.FinalChain': WHATEVER THE INPUT: true; the input reads as it did. -/
def finalChainSpec : ChangeSpec := { name := "finalChain", fn := fun _ => fun
  | [d1, d2, d3, d4] => { results := [.lit (.bool true)], args := [d1, d2, d3, d4] }
  | _ => none }
def finalChainRow : OpenClaim := { program := "ytlhnjaeocoafnaa", sum := "f0e9b2992c7b7500340eacd663bc064ce48c976b7d866f491e4edd89540f1372", func := "areopagus/areopaguslaw16.FinalChain", spec := "finalChain", unfollowed := true, recurses := true, plainKeys := false, apart := false }
def FinalChainSaid : Prop := finalChainRow.holds Try.pinned (OpenSpec.ofChange finalChainSpec)

/-- ITS FALSE NEIGHBOUR: 'it returns false'. Refute it at one input. -/
def finalChainWrong : ChangeSpec := { name := "finalChain", fn := fun _ => fun
  | [d1, d2, d3, d4] => { results := [.lit (.bool false)], args := [d1, d2, d3, d4] }
  | _ => none }
def FinalChainWrongFalsely : Prop := finalChainRow.holds Try.pinned (OpenSpec.ofChange finalChainWrong)

/- THE SECOND FORM. 'bulk': how many values and letters a reading holds, each counted each time it is reached (what is shared counts as often as it is met; a slice's spare places count too). A statement '..UptoSaid' is the law's where the arguments, and the package variables that the reading takes, are together of bulk at most 1048576: NARROWER than '..Said'. Prove '..Said' where nothing that the law and all that it calls make is longer than what came in: it says more and counts as full. Else prove '..UptoSaid'. A law counts once. -/
mutual
def uptoBulk {H : Type} : DataW H → Nat
  | .lit (.string bytes) => bytes.length + 1
  | .lit _ => 1
  | .nil => 1
  | .ptr d => uptoBulk d + 1
  | .slice elems spare => uptoBulkAll elems + uptoBulkAll spare + 1
  | .agg parts => uptoBulkAll parts + 1
  | .iface _ d => uptoBulk d + 1
  | .map entries => uptoBulkEntries entries + 1
  | .held _ => 1
def uptoBulkAll {H : Type} : List (DataW H) → Nat
  | [] => 0
  | d :: r => uptoBulk d + uptoBulkAll r
def uptoBulkEntries {H : Type} : List (Lit × DataW H) → Nat
  | [] => 0
  | x :: r => uptoBulkEntry x + uptoBulkEntries r
def uptoBulkEntry {H : Type} : Lit × DataW H → Nat
  | (.string bytes, d) => bytes.length + uptoBulk d + 1
  | (_, d) => uptoBulk d + 1
 end
def uptoSmall : (H : Type) → List (DataW H) → Bool := fun _ ds => decide (uptoBulkAll ds ≤ 1048576)
def OpenSpec.upto (s : _root_.Go.ChangeSpec) : _root_.Go.OpenSpec := { _root_.Go.OpenSpec.ofChange s with cond := some uptoSmall }

/-- 'areopaguslaw16.FinalTells', WHERE WHAT IT READS IS OF BULK AT MOST 1048576: true; the input reads as it did. -/
def finalTellsUptoRow : OpenClaim := { program := "ytlhnjaeocoafnaa", sum := "f0e9b2992c7b7500340eacd663bc064ce48c976b7d866f491e4edd89540f1372", func := "areopagus/areopaguslaw16.FinalTells", spec := "finalTells", unfollowed := true, recurses := true, plainKeys := false, apart := false, narrowed := true }
def FinalTellsUptoSaid : Prop := finalTellsUptoRow.holds Try.pinned (OpenSpec.upto finalTellsSpec)

/-- 'areopaguslaw16.FinalSafe', WHERE WHAT IT READS IS OF BULK AT MOST 1048576: true; the input reads as it did. -/
def finalSafeUptoRow : OpenClaim := { program := "ytlhnjaeocoafnaa", sum := "f0e9b2992c7b7500340eacd663bc064ce48c976b7d866f491e4edd89540f1372", func := "areopagus/areopaguslaw16.FinalSafe", spec := "finalSafe", unfollowed := true, recurses := true, plainKeys := false, apart := false, narrowed := true }
def FinalSafeUptoSaid : Prop := finalSafeUptoRow.holds Try.pinned (OpenSpec.upto finalSafeSpec)

/-- 'areopaguslaw16.FinalNext', WHERE WHAT IT READS IS OF BULK AT MOST 1048576: true; the input reads as it did. -/
def finalNextUptoRow : OpenClaim := { program := "ytlhnjaeocoafnaa", sum := "f0e9b2992c7b7500340eacd663bc064ce48c976b7d866f491e4edd89540f1372", func := "areopagus/areopaguslaw16.FinalNext", spec := "finalNext", unfollowed := true, recurses := true, plainKeys := false, apart := false, narrowed := true }
def FinalNextUptoSaid : Prop := finalNextUptoRow.holds Try.pinned (OpenSpec.upto finalNextSpec)

/-- 'areopaguslaw16.FinalBest', WHERE WHAT IT READS IS OF BULK AT MOST 1048576: true; the input reads as it did. -/
def finalBestUptoRow : OpenClaim := { program := "ytlhnjaeocoafnaa", sum := "f0e9b2992c7b7500340eacd663bc064ce48c976b7d866f491e4edd89540f1372", func := "areopagus/areopaguslaw16.FinalBest", spec := "finalBest", unfollowed := true, recurses := true, plainKeys := false, apart := false, narrowed := true }
def FinalBestUptoSaid : Prop := finalBestUptoRow.holds Try.pinned (OpenSpec.upto finalBestSpec)

/-- 'areopaguslaw16.FinalNone', WHERE WHAT IT READS IS OF BULK AT MOST 1048576: true; the input reads as it did. -/
def finalNoneUptoRow : OpenClaim := { program := "ytlhnjaeocoafnaa", sum := "f0e9b2992c7b7500340eacd663bc064ce48c976b7d866f491e4edd89540f1372", func := "areopagus/areopaguslaw16.FinalNone", spec := "finalNone", unfollowed := true, recurses := true, plainKeys := false, apart := false, narrowed := true }
def FinalNoneUptoSaid : Prop := finalNoneUptoRow.holds Try.pinned (OpenSpec.upto finalNoneSpec)

/-- 'areopaguslaw16.FinalChain', WHERE WHAT IT READS IS OF BULK AT MOST 1048576: true; the input reads as it did. -/
def finalChainUptoRow : OpenClaim := { program := "ytlhnjaeocoafnaa", sum := "f0e9b2992c7b7500340eacd663bc064ce48c976b7d866f491e4edd89540f1372", func := "areopagus/areopaguslaw16.FinalChain", spec := "finalChain", unfollowed := true, recurses := true, plainKeys := false, apart := false, narrowed := true }
def FinalChainUptoSaid : Prop := finalChainUptoRow.holds Try.pinned (OpenSpec.upto finalChainSpec)

end Rows
end Go.Proofs.Ytlhnjaeocoafnaa
