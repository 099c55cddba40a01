/-
  No cell of these rows narrows 'for every input' (looked for: loops, veiled, ifaces, maps, wideKeys, modest, calm, conditions, laid).
  DERIVED. THE GIVEN ROWS OF THIS SEAT. 6 by the template 'for every input the law returns true; each argument reads behind the call as it read before'; 0 by the template 'total and deterministic' (their statements: YtjjncaojicjfjaaTotals.lean).
  GIVEN WITH THE SEED: the statements are not yours to turn. If you find one false, say at which input.
  Laid BY PROGRAM, IN A SANDBOX (cutbox-rows.mjs): the forced cells as the released guide's own fill.sh prints them over the translation d75b243d77ce682b… (all of the seat's roots in one cut). By AI agents, Wed Nov 11 2026. No macro, syntax, notation, axiom, sorry.
-/
import Derived.Test.YtjjncaojicjfjaaChecked
import GoSem.Claim
import GoSem.ClaimJoined
import GoSem.ClaimMapViews
import Derived.JoinedTies
import Derived.KernelRfl
namespace Go.Proofs.Ytjjncaojicjfjaa
/- THE CELL 'sum', in the pinned program and in every row, IS THE sha256 OF THE DUMP (.gsa) THAT YtjjncaojicjfjaaProg.lean LOADS. Nothing in Lean hashes anything: it is a label: what it is worth is what the hold of that sum in a sandbox is worth. -/
noncomputable def Try.pinned : Pinned := { name := "ytjjncaojicjfjaa", sum := "d75b243d77ce682b1ac3361b75d106b65dcc5c55765bcf6bdf9f5939d978ec82", checked := Try.checked }
namespace Rows
def none {H : Type} : Left H := { results := [], args := [] }

/-- 'areopaguslaw11.StakeTells': WHATEVER THE INPUT: true; the input reads as it did. -/
def stakeTellsSpec : ChangeSpec := { name := "stakeTells", fn := fun _ => fun
  | [d1, d2, d3] => { results := [.lit (.bool true)], args := [d1, d2, d3] }
  | _ => none }
def stakeTellsRow : OpenClaim := { program := "ytjjncaojicjfjaa", sum := "d75b243d77ce682b1ac3361b75d106b65dcc5c55765bcf6bdf9f5939d978ec82", func := "areopagus/areopaguslaw11.StakeTells", spec := "stakeTells", unfollowed := true, recurses := true, apart := false }
def StakeTellsSaid : Prop := stakeTellsRow.holds Try.pinned (OpenSpec.ofChange stakeTellsSpec)

/-- ITS FALSE NEIGHBOUR: 'it returns false'. Refute it at one input. -/
def stakeTellsWrong : ChangeSpec := { name := "stakeTells", fn := fun _ => fun
  | [d1, d2, d3] => { results := [.lit (.bool false)], args := [d1, d2, d3] }
  | _ => none }
def StakeTellsWrongFalsely : Prop := stakeTellsRow.holds Try.pinned (OpenSpec.ofChange stakeTellsWrong)

/-- 'areopaguslaw11.StakeCommon': WHATEVER THE INPUT: true; the input reads as it did. -/
def stakeCommonSpec : ChangeSpec := { name := "stakeCommon", fn := fun _ => fun
  | [d1, d2, d3] => { results := [.lit (.bool true)], args := [d1, d2, d3] }
  | _ => none }
def stakeCommonRow : OpenClaim := { program := "ytjjncaojicjfjaa", sum := "d75b243d77ce682b1ac3361b75d106b65dcc5c55765bcf6bdf9f5939d978ec82", func := "areopagus/areopaguslaw11.StakeCommon", spec := "stakeCommon", unfollowed := true, recurses := true, apart := false }
def StakeCommonSaid : Prop := stakeCommonRow.holds Try.pinned (OpenSpec.ofChange stakeCommonSpec)

/-- ITS FALSE NEIGHBOUR: 'it returns false'. Refute it at one input. -/
def stakeCommonWrong : ChangeSpec := { name := "stakeCommon", fn := fun _ => fun
  | [d1, d2, d3] => { results := [.lit (.bool false)], args := [d1, d2, d3] }
  | _ => none }
def StakeCommonWrongFalsely : Prop := stakeCommonRow.holds Try.pinned (OpenSpec.ofChange stakeCommonWrong)

/-- 'areopaguslaw11.StakeParts': WHATEVER THE INPUT: true; the input reads as it did. -/
def stakePartsSpec : ChangeSpec := { name := "stakeParts", fn := fun _ => fun
  | [d1, d2, d3] => { results := [.lit (.bool true)], args := [d1, d2, d3] }
  | _ => none }
def stakePartsRow : OpenClaim := { program := "ytjjncaojicjfjaa", sum := "d75b243d77ce682b1ac3361b75d106b65dcc5c55765bcf6bdf9f5939d978ec82", func := "areopagus/areopaguslaw11.StakeParts", spec := "stakeParts", unfollowed := true, recurses := true, apart := false }
def StakePartsSaid : Prop := stakePartsRow.holds Try.pinned (OpenSpec.ofChange stakePartsSpec)

/-- ITS FALSE NEIGHBOUR: 'it returns false'. Refute it at one input. -/
def stakePartsWrong : ChangeSpec := { name := "stakeParts", fn := fun _ => fun
  | [d1, d2, d3] => { results := [.lit (.bool false)], args := [d1, d2, d3] }
  | _ => none }
def StakePartsWrongFalsely : Prop := stakePartsRow.holds Try.pinned (OpenSpec.ofChange stakePartsWrong)

/-- 'areopaguslaw11.StakeMore': WHATEVER THE INPUT: true; the input reads as it did. -/
def stakeMoreSpec : ChangeSpec := { name := "stakeMore", fn := fun _ => fun
  | [d1, d2, d3] => { results := [.lit (.bool true)], args := [d1, d2, d3] }
  | _ => none }
def stakeMoreRow : OpenClaim := { program := "ytjjncaojicjfjaa", sum := "d75b243d77ce682b1ac3361b75d106b65dcc5c55765bcf6bdf9f5939d978ec82", func := "areopagus/areopaguslaw11.StakeMore", spec := "stakeMore", unfollowed := true, recurses := true, apart := false }
def StakeMoreSaid : Prop := stakeMoreRow.holds Try.pinned (OpenSpec.ofChange stakeMoreSpec)

/-- ITS FALSE NEIGHBOUR: 'it returns false'. Refute it at one input. -/
def stakeMoreWrong : ChangeSpec := { name := "stakeMore", fn := fun _ => fun
  | [d1, d2, d3] => { results := [.lit (.bool false)], args := [d1, d2, d3] }
  | _ => none }
def StakeMoreWrongFalsely : Prop := stakeMoreRow.holds Try.pinned (OpenSpec.ofChange stakeMoreWrong)

/-- 'areopaguslaw11.StakeSums': WHATEVER THE INPUT: true; the input reads as it did. -/
def stakeSumsSpec : ChangeSpec := { name := "stakeSums", fn := fun _ => fun
  | [d1, d2] => { results := [.lit (.bool true)], args := [d1, d2] }
  | _ => none }
def stakeSumsRow : OpenClaim := { program := "ytjjncaojicjfjaa", sum := "d75b243d77ce682b1ac3361b75d106b65dcc5c55765bcf6bdf9f5939d978ec82", func := "areopagus/areopaguslaw11.StakeSums", spec := "stakeSums", unfollowed := true, recurses := true, apart := false }
def StakeSumsSaid : Prop := stakeSumsRow.holds Try.pinned (OpenSpec.ofChange stakeSumsSpec)

/-- ITS FALSE NEIGHBOUR: 'it returns false'. Refute it at one input. -/
def stakeSumsWrong : ChangeSpec := { name := "stakeSums", fn := fun _ => fun
  | [d1, d2] => { results := [.lit (.bool false)], args := [d1, d2] }
  | _ => none }
def StakeSumsWrongFalsely : Prop := stakeSumsRow.holds Try.pinned (OpenSpec.ofChange stakeSumsWrong)

/-- 'areopaguslaw11.StakeNone': WHATEVER THE INPUT: true; the input reads as it did. -/
def stakeNoneSpec : ChangeSpec := { name := "stakeNone", fn := fun _ => fun
  | [d1, d2] => { results := [.lit (.bool true)], args := [d1, d2] }
  | _ => none }
def stakeNoneRow : OpenClaim := { program := "ytjjncaojicjfjaa", sum := "d75b243d77ce682b1ac3361b75d106b65dcc5c55765bcf6bdf9f5939d978ec82", func := "areopagus/areopaguslaw11.StakeNone", spec := "stakeNone", unfollowed := true, recurses := true, apart := false }
def StakeNoneSaid : Prop := stakeNoneRow.holds Try.pinned (OpenSpec.ofChange stakeNoneSpec)

/-- ITS FALSE NEIGHBOUR: 'it returns false'. Refute it at one input. -/
def stakeNoneWrong : ChangeSpec := { name := "stakeNone", fn := fun _ => fun
  | [d1, d2] => { results := [.lit (.bool false)], args := [d1, d2] }
  | _ => none }
def StakeNoneWrongFalsely : Prop := stakeNoneRow.holds Try.pinned (OpenSpec.ofChange stakeNoneWrong)

/- THE SECOND FORM. 'bulk': how many values and letters a reading holds, each counted each time it is reached (what is shared counts as often as it is met; a slice's spare places count too). A statement '..UptoSaid' is the law's where the arguments, and the package variables that the reading takes, are together of bulk at most 1048576: NARROWER than '..Said'. Prove '..Said' where nothing that the law and all that it calls make is longer than what came in: it says more and counts as full. Else prove '..UptoSaid'. A law counts once. -/
mutual
def uptoBulk {H : Type} : DataW H → Nat
  | .lit (.string bytes) => bytes.length + 1
  | .lit _ => 1
  | .nil => 1
  | .ptr d => uptoBulk d + 1
  | .slice elems spare => uptoBulkAll elems + uptoBulkAll spare + 1
  | .agg parts => uptoBulkAll parts + 1
  | .iface _ d => uptoBulk d + 1
  | .map entries => uptoBulkEntries entries + 1
  | .held _ => 1
def uptoBulkAll {H : Type} : List (DataW H) → Nat
  | [] => 0
  | d :: r => uptoBulk d + uptoBulkAll r
def uptoBulkEntries {H : Type} : List (Lit × DataW H) → Nat
  | [] => 0
  | x :: r => uptoBulkEntry x + uptoBulkEntries r
def uptoBulkEntry {H : Type} : Lit × DataW H → Nat
  | (.string bytes, d) => bytes.length + uptoBulk d + 1
  | (_, d) => uptoBulk d + 1
 end
def uptoSmall : (H : Type) → List (DataW H) → Bool := fun _ ds => decide (uptoBulkAll ds ≤ 1048576)
def OpenSpec.upto (s : _root_.Go.ChangeSpec) : _root_.Go.OpenSpec := { _root_.Go.OpenSpec.ofChange s with cond := some uptoSmall }

/-- 'areopaguslaw11.StakeTells', WHERE WHAT IT READS IS OF BULK AT MOST 1048576: true; the input reads as it did. -/
def stakeTellsUptoRow : OpenClaim := { program := "ytjjncaojicjfjaa", sum := "d75b243d77ce682b1ac3361b75d106b65dcc5c55765bcf6bdf9f5939d978ec82", func := "areopagus/areopaguslaw11.StakeTells", spec := "stakeTells", unfollowed := true, recurses := true, apart := false, narrowed := true }
def StakeTellsUptoSaid : Prop := stakeTellsUptoRow.holds Try.pinned (OpenSpec.upto stakeTellsSpec)

/-- 'areopaguslaw11.StakeCommon', WHERE WHAT IT READS IS OF BULK AT MOST 1048576: true; the input reads as it did. -/
def stakeCommonUptoRow : OpenClaim := { program := "ytjjncaojicjfjaa", sum := "d75b243d77ce682b1ac3361b75d106b65dcc5c55765bcf6bdf9f5939d978ec82", func := "areopagus/areopaguslaw11.StakeCommon", spec := "stakeCommon", unfollowed := true, recurses := true, apart := false, narrowed := true }
def StakeCommonUptoSaid : Prop := stakeCommonUptoRow.holds Try.pinned (OpenSpec.upto stakeCommonSpec)

/-- 'areopaguslaw11.StakeParts', WHERE WHAT IT READS IS OF BULK AT MOST 1048576: true; the input reads as it did. -/
def stakePartsUptoRow : OpenClaim := { program := "ytjjncaojicjfjaa", sum := "d75b243d77ce682b1ac3361b75d106b65dcc5c55765bcf6bdf9f5939d978ec82", func := "areopagus/areopaguslaw11.StakeParts", spec := "stakeParts", unfollowed := true, recurses := true, apart := false, narrowed := true }
def StakePartsUptoSaid : Prop := stakePartsUptoRow.holds Try.pinned (OpenSpec.upto stakePartsSpec)

/-- 'areopaguslaw11.StakeMore', WHERE WHAT IT READS IS OF BULK AT MOST 1048576: true; the input reads as it did. -/
def stakeMoreUptoRow : OpenClaim := { program := "ytjjncaojicjfjaa", sum := "d75b243d77ce682b1ac3361b75d106b65dcc5c55765bcf6bdf9f5939d978ec82", func := "areopagus/areopaguslaw11.StakeMore", spec := "stakeMore", unfollowed := true, recurses := true, apart := false, narrowed := true }
def StakeMoreUptoSaid : Prop := stakeMoreUptoRow.holds Try.pinned (OpenSpec.upto stakeMoreSpec)

/-- 'areopaguslaw11.StakeSums', WHERE WHAT IT READS IS OF BULK AT MOST 1048576: true; the input reads as it did. -/
def stakeSumsUptoRow : OpenClaim := { program := "ytjjncaojicjfjaa", sum := "d75b243d77ce682b1ac3361b75d106b65dcc5c55765bcf6bdf9f5939d978ec82", func := "areopagus/areopaguslaw11.StakeSums", spec := "stakeSums", unfollowed := true, recurses := true, apart := false, narrowed := true }
def StakeSumsUptoSaid : Prop := stakeSumsUptoRow.holds Try.pinned (OpenSpec.upto stakeSumsSpec)

/-- 'areopaguslaw11.StakeNone', WHERE WHAT IT READS IS OF BULK AT MOST 1048576: true; the input reads as it did. -/
def stakeNoneUptoRow : OpenClaim := { program := "ytjjncaojicjfjaa", sum := "d75b243d77ce682b1ac3361b75d106b65dcc5c55765bcf6bdf9f5939d978ec82", func := "areopagus/areopaguslaw11.StakeNone", spec := "stakeNone", unfollowed := true, recurses := true, apart := false, narrowed := true }
def StakeNoneUptoSaid : Prop := stakeNoneUptoRow.holds Try.pinned (OpenSpec.upto stakeNoneSpec)

end Rows
end Go.Proofs.Ytjjncaojicjfjaa
