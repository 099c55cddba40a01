/-
  No cell of these rows narrows 'for every input' (looked for: loops, veiled, ifaces, maps, wideKeys, modest, calm, conditions, laid).
  DERIVED. THE GIVEN ROWS OF THIS SEAT. 7 by the template 'for every input the law returns true; each argument reads behind the call as it read before'; 0 by the template 'total and deterministic' (their statements: YtmihlihlpdkdcaaGreatTotals.lean).
  GIVEN WITH THE SEED: the statements are not yours to turn. If you find one false, say at which input.
  Laid BY PROGRAM, IN A SANDBOX (cutbox-rows.mjs): the forced cells as the released guide's own fill.sh prints them over the translation d3ecf06257b2217e… (all of the seat's roots in one cut). By AI agents, Wed Nov 11 2026. No macro, syntax, notation, axiom, sorry.
-/
import Derived.Test.YtmihlihlpdkdcaaGreatChecked
import GoSem.Claim
import GoSem.ClaimJoined
import GoSem.ClaimMapViews
import Derived.JoinedTies
import Derived.KernelRfl
namespace Go.Proofs.YtmihlihlpdkdcaaGreat
/- THE CELL 'sum', in the pinned program and in every row, IS THE sha256 OF THE DUMP (.gsa) THAT YtmihlihlpdkdcaaGreatProg.lean LOADS. Nothing in Lean hashes anything: it is a label: what it is worth is what the hold of that sum in a sandbox is worth. -/
noncomputable def Tryz.pinned : Pinned := { name := "ytmihlihlpdkdcaagreat", sum := "d3ecf06257b2217e8a2f7336ac2daa18e6e55b77957cf31f521ad8a8d4642b60", checked := Tryz.checked }
namespace Rows
def none {H : Type} : Left H := { results := [], args := [] }

/-- 'areopaguslaw17.EngineNew': WHATEVER THE INPUT: true; the input reads as it did. -/
def engineNewSpec : ChangeSpec := { name := "engineNew", fn := fun _ => fun
  | [d1, d2] => { results := [.lit (.bool true)], args := [d1, d2] }
  | _ => none }
def engineNewRow : OpenClaim := { program := "ytmihlihlpdkdcaagreat", sum := "d3ecf06257b2217e8a2f7336ac2daa18e6e55b77957cf31f521ad8a8d4642b60", func := "areopagus/areopaguslaw17.EngineNew", spec := "engineNew", inPlace := ["math/bits.Add64"], unfollowed := true, recurses := true, plainKeys := false, apart := false }
def EngineNewSaid : Prop := engineNewRow.holds Tryz.pinned (OpenSpec.ofChange engineNewSpec)

/-- ITS FALSE NEIGHBOUR: 'it returns false'. Refute it at one input. -/
def engineNewWrong : ChangeSpec := { name := "engineNew", fn := fun _ => fun
  | [d1, d2] => { results := [.lit (.bool false)], args := [d1, d2] }
  | _ => none }
def EngineNewWrongFalsely : Prop := engineNewRow.holds Tryz.pinned (OpenSpec.ofChange engineNewWrong)

/-- 'areopaguslaw17.EngineStays': WHATEVER THE INPUT: true; the input reads as it did. -/
def engineStaysSpec : ChangeSpec := { name := "engineStays", fn := fun _ => fun
  | [d1, d2] => { results := [.lit (.bool true)], args := [d1, d2] }
  | _ => none }
def engineStaysRow : OpenClaim := { program := "ytmihlihlpdkdcaagreat", sum := "d3ecf06257b2217e8a2f7336ac2daa18e6e55b77957cf31f521ad8a8d4642b60", func := "areopagus/areopaguslaw17.EngineStays", spec := "engineStays", inPlace := ["math/bits.Add64"], unfollowed := true, recurses := true, plainKeys := false, apart := false }
def EngineStaysSaid : Prop := engineStaysRow.holds Tryz.pinned (OpenSpec.ofChange engineStaysSpec)

/-- ITS FALSE NEIGHBOUR: 'it returns false'. Refute it at one input. -/
def engineStaysWrong : ChangeSpec := { name := "engineStays", fn := fun _ => fun
  | [d1, d2] => { results := [.lit (.bool false)], args := [d1, d2] }
  | _ => none }
def EngineStaysWrongFalsely : Prop := engineStaysRow.holds Tryz.pinned (OpenSpec.ofChange engineStaysWrong)

/-- 'areopaguslaw17.EngineFinal': WHATEVER THE INPUT: true; the input reads as it did. -/
def engineFinalSpec : ChangeSpec := { name := "engineFinal", fn := fun _ => fun
  | [d1, d2] => { results := [.lit (.bool true)], args := [d1, d2] }
  | _ => none }
def engineFinalRow : OpenClaim := { program := "ytmihlihlpdkdcaagreat", sum := "d3ecf06257b2217e8a2f7336ac2daa18e6e55b77957cf31f521ad8a8d4642b60", func := "areopagus/areopaguslaw17.EngineFinal", spec := "engineFinal", inPlace := ["math/bits.Add64"], unfollowed := true, recurses := true, plainKeys := false, apart := false }
def EngineFinalSaid : Prop := engineFinalRow.holds Tryz.pinned (OpenSpec.ofChange engineFinalSpec)

/-- ITS FALSE NEIGHBOUR: 'it returns false'. Refute it at one input. -/
def engineFinalWrong : ChangeSpec := { name := "engineFinal", fn := fun _ => fun
  | [d1, d2] => { results := [.lit (.bool false)], args := [d1, d2] }
  | _ => none }
def EngineFinalWrongFalsely : Prop := engineFinalRow.holds Tryz.pinned (OpenSpec.ofChange engineFinalWrong)

/-- 'areopaguslaw17.EnginePrune': WHATEVER THE INPUT: true; the input reads as it did. -/
def enginePruneSpec : ChangeSpec := { name := "enginePrune", fn := fun _ => fun
  | [d1, d2, d3, d4] => { results := [.lit (.bool true)], args := [d1, d2, d3, d4] }
  | _ => none }
def enginePruneRow : OpenClaim := { program := "ytmihlihlpdkdcaagreat", sum := "d3ecf06257b2217e8a2f7336ac2daa18e6e55b77957cf31f521ad8a8d4642b60", func := "areopagus/areopaguslaw17.EnginePrune", spec := "enginePrune", inPlace := ["math/bits.Add64"], unfollowed := true, recurses := true, plainKeys := false, apart := false }
def EnginePruneSaid : Prop := enginePruneRow.holds Tryz.pinned (OpenSpec.ofChange enginePruneSpec)

/-- ITS FALSE NEIGHBOUR: 'it returns false'. Refute it at one input. -/
def enginePruneWrong : ChangeSpec := { name := "enginePrune", fn := fun _ => fun
  | [d1, d2, d3, d4] => { results := [.lit (.bool false)], args := [d1, d2, d3, d4] }
  | _ => none }
def EnginePruneWrongFalsely : Prop := enginePruneRow.holds Tryz.pinned (OpenSpec.ofChange enginePruneWrong)

/-- 'areopaguslaw17.EngineLate': WHATEVER THE INPUT: true; the input reads as it did. -/
def engineLateSpec : ChangeSpec := { name := "engineLate", fn := fun _ => fun
  | [d1, d2] => { results := [.lit (.bool true)], args := [d1, d2] }
  | _ => none }
def engineLateRow : OpenClaim := { program := "ytmihlihlpdkdcaagreat", sum := "d3ecf06257b2217e8a2f7336ac2daa18e6e55b77957cf31f521ad8a8d4642b60", func := "areopagus/areopaguslaw17.EngineLate", spec := "engineLate", inPlace := ["math/bits.Add64"], unfollowed := true, recurses := true, plainKeys := false, apart := false }
def EngineLateSaid : Prop := engineLateRow.holds Tryz.pinned (OpenSpec.ofChange engineLateSpec)

/-- ITS FALSE NEIGHBOUR: 'it returns false'. Refute it at one input. -/
def engineLateWrong : ChangeSpec := { name := "engineLate", fn := fun _ => fun
  | [d1, d2] => { results := [.lit (.bool false)], args := [d1, d2] }
  | _ => none }
def EngineLateWrongFalsely : Prop := engineLateRow.holds Tryz.pinned (OpenSpec.ofChange engineLateWrong)

/-- 'areopaguslaw17.EngineWeighs': WHATEVER THE INPUT: true; the input reads as it did. -/
def engineWeighsSpec : ChangeSpec := { name := "engineWeighs", fn := fun _ => fun
  | [d1, d2] => { results := [.lit (.bool true)], args := [d1, d2] }
  | _ => none }
def engineWeighsRow : OpenClaim := { program := "ytmihlihlpdkdcaagreat", sum := "d3ecf06257b2217e8a2f7336ac2daa18e6e55b77957cf31f521ad8a8d4642b60", func := "areopagus/areopaguslaw17.EngineWeighs", spec := "engineWeighs", inPlace := ["math/bits.Add64"], unfollowed := true, recurses := true, plainKeys := false, apart := false }
def EngineWeighsSaid : Prop := engineWeighsRow.holds Tryz.pinned (OpenSpec.ofChange engineWeighsSpec)

/-- ITS FALSE NEIGHBOUR: 'it returns false'. Refute it at one input. -/
def engineWeighsWrong : ChangeSpec := { name := "engineWeighs", fn := fun _ => fun
  | [d1, d2] => { results := [.lit (.bool false)], args := [d1, d2] }
  | _ => none }
def EngineWeighsWrongFalsely : Prop := engineWeighsRow.holds Tryz.pinned (OpenSpec.ofChange engineWeighsWrong)

/-- 'areopaguslaw17.EngineBlock': WHATEVER THE INPUT: true; the input reads as it did. -/
def engineBlockSpec : ChangeSpec := { name := "engineBlock", fn := fun _ => fun
  | [d1, d2] => { results := [.lit (.bool true)], args := [d1, d2] }
  | _ => none }
def engineBlockRow : OpenClaim := { program := "ytmihlihlpdkdcaagreat", sum := "d3ecf06257b2217e8a2f7336ac2daa18e6e55b77957cf31f521ad8a8d4642b60", func := "areopagus/areopaguslaw17.EngineBlock", spec := "engineBlock", inPlace := ["math/bits.Add64"], unfollowed := true, recurses := true, plainKeys := false, apart := false }
def EngineBlockSaid : Prop := engineBlockRow.holds Tryz.pinned (OpenSpec.ofChange engineBlockSpec)

/-- ITS FALSE NEIGHBOUR: 'it returns false'. Refute it at one input. -/
def engineBlockWrong : ChangeSpec := { name := "engineBlock", fn := fun _ => fun
  | [d1, d2] => { results := [.lit (.bool false)], args := [d1, d2] }
  | _ => none }
def EngineBlockWrongFalsely : Prop := engineBlockRow.holds Tryz.pinned (OpenSpec.ofChange engineBlockWrong)

/- THE SECOND FORM. 'bulk': how many values and letters a reading holds, each counted each time it is reached (what is shared counts as often as it is met; a slice's spare places count too). A statement '..UptoSaid' is the law's where the arguments, and the package variables that the reading takes, are together of bulk at most 1048576: NARROWER than '..Said'. Prove '..Said' where nothing that the law and all that it calls make is longer than what came in: it says more and counts as full. Else prove '..UptoSaid'. A law counts once. -/
mutual
def uptoBulk {H : Type} : DataW H → Nat
  | .lit (.string bytes) => bytes.length + 1
  | .lit _ => 1
  | .nil => 1
  | .ptr d => uptoBulk d + 1
  | .slice elems spare => uptoBulkAll elems + uptoBulkAll spare + 1
  | .agg parts => uptoBulkAll parts + 1
  | .iface _ d => uptoBulk d + 1
  | .map entries => uptoBulkEntries entries + 1
  | .held _ => 1
def uptoBulkAll {H : Type} : List (DataW H) → Nat
  | [] => 0
  | d :: r => uptoBulk d + uptoBulkAll r
def uptoBulkEntries {H : Type} : List (Lit × DataW H) → Nat
  | [] => 0
  | x :: r => uptoBulkEntry x + uptoBulkEntries r
def uptoBulkEntry {H : Type} : Lit × DataW H → Nat
  | (.string bytes, d) => bytes.length + uptoBulk d + 1
  | (_, d) => uptoBulk d + 1
 end
def uptoSmall : (H : Type) → List (DataW H) → Bool := fun _ ds => decide (uptoBulkAll ds ≤ 1048576)
def OpenSpec.upto (s : _root_.Go.ChangeSpec) : _root_.Go.OpenSpec := { _root_.Go.OpenSpec.ofChange s with cond := some uptoSmall }

/-- 'areopaguslaw17.EngineNew', WHERE WHAT IT READS IS OF BULK AT MOST 1048576: true; the input reads as it did. -/
def engineNewUptoRow : OpenClaim := { program := "ytmihlihlpdkdcaagreat", sum := "d3ecf06257b2217e8a2f7336ac2daa18e6e55b77957cf31f521ad8a8d4642b60", func := "areopagus/areopaguslaw17.EngineNew", spec := "engineNew", inPlace := ["math/bits.Add64"], unfollowed := true, recurses := true, plainKeys := false, apart := false, narrowed := true }
def EngineNewUptoSaid : Prop := engineNewUptoRow.holds Tryz.pinned (OpenSpec.upto engineNewSpec)

/-- 'areopaguslaw17.EngineStays', WHERE WHAT IT READS IS OF BULK AT MOST 1048576: true; the input reads as it did. -/
def engineStaysUptoRow : OpenClaim := { program := "ytmihlihlpdkdcaagreat", sum := "d3ecf06257b2217e8a2f7336ac2daa18e6e55b77957cf31f521ad8a8d4642b60", func := "areopagus/areopaguslaw17.EngineStays", spec := "engineStays", inPlace := ["math/bits.Add64"], unfollowed := true, recurses := true, plainKeys := false, apart := false, narrowed := true }
def EngineStaysUptoSaid : Prop := engineStaysUptoRow.holds Tryz.pinned (OpenSpec.upto engineStaysSpec)

/-- 'areopaguslaw17.EngineFinal', WHERE WHAT IT READS IS OF BULK AT MOST 1048576: true; the input reads as it did. -/
def engineFinalUptoRow : OpenClaim := { program := "ytmihlihlpdkdcaagreat", sum := "d3ecf06257b2217e8a2f7336ac2daa18e6e55b77957cf31f521ad8a8d4642b60", func := "areopagus/areopaguslaw17.EngineFinal", spec := "engineFinal", inPlace := ["math/bits.Add64"], unfollowed := true, recurses := true, plainKeys := false, apart := false, narrowed := true }
def EngineFinalUptoSaid : Prop := engineFinalUptoRow.holds Tryz.pinned (OpenSpec.upto engineFinalSpec)

/-- 'areopaguslaw17.EnginePrune', WHERE WHAT IT READS IS OF BULK AT MOST 1048576: true; the input reads as it did. -/
def enginePruneUptoRow : OpenClaim := { program := "ytmihlihlpdkdcaagreat", sum := "d3ecf06257b2217e8a2f7336ac2daa18e6e55b77957cf31f521ad8a8d4642b60", func := "areopagus/areopaguslaw17.EnginePrune", spec := "enginePrune", inPlace := ["math/bits.Add64"], unfollowed := true, recurses := true, plainKeys := false, apart := false, narrowed := true }
def EnginePruneUptoSaid : Prop := enginePruneUptoRow.holds Tryz.pinned (OpenSpec.upto enginePruneSpec)

/-- 'areopaguslaw17.EngineLate', WHERE WHAT IT READS IS OF BULK AT MOST 1048576: true; the input reads as it did. -/
def engineLateUptoRow : OpenClaim := { program := "ytmihlihlpdkdcaagreat", sum := "d3ecf06257b2217e8a2f7336ac2daa18e6e55b77957cf31f521ad8a8d4642b60", func := "areopagus/areopaguslaw17.EngineLate", spec := "engineLate", inPlace := ["math/bits.Add64"], unfollowed := true, recurses := true, plainKeys := false, apart := false, narrowed := true }
def EngineLateUptoSaid : Prop := engineLateUptoRow.holds Tryz.pinned (OpenSpec.upto engineLateSpec)

/-- 'areopaguslaw17.EngineWeighs', WHERE WHAT IT READS IS OF BULK AT MOST 1048576: true; the input reads as it did. -/
def engineWeighsUptoRow : OpenClaim := { program := "ytmihlihlpdkdcaagreat", sum := "d3ecf06257b2217e8a2f7336ac2daa18e6e55b77957cf31f521ad8a8d4642b60", func := "areopagus/areopaguslaw17.EngineWeighs", spec := "engineWeighs", inPlace := ["math/bits.Add64"], unfollowed := true, recurses := true, plainKeys := false, apart := false, narrowed := true }
def EngineWeighsUptoSaid : Prop := engineWeighsUptoRow.holds Tryz.pinned (OpenSpec.upto engineWeighsSpec)

/-- 'areopaguslaw17.EngineBlock', WHERE WHAT IT READS IS OF BULK AT MOST 1048576: true; the input reads as it did. -/
def engineBlockUptoRow : OpenClaim := { program := "ytmihlihlpdkdcaagreat", sum := "d3ecf06257b2217e8a2f7336ac2daa18e6e55b77957cf31f521ad8a8d4642b60", func := "areopagus/areopaguslaw17.EngineBlock", spec := "engineBlock", inPlace := ["math/bits.Add64"], unfollowed := true, recurses := true, plainKeys := false, apart := false, narrowed := true }
def EngineBlockUptoSaid : Prop := engineBlockUptoRow.holds Tryz.pinned (OpenSpec.upto engineBlockSpec)

end Rows
end Go.Proofs.YtmihlihlpdkdcaaGreat
