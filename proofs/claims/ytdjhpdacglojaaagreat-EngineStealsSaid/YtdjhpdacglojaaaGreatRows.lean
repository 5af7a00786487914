/-
  No cell of these rows narrows 'for every input' (looked for: loops, veiled, ifaces, maps, wideKeys, modest, calm, conditions, laid).
  DERIVED. THE GIVEN ROWS OF THIS SEAT. 4 by the template 'for every input the law returns true; each argument reads behind the call as it read before'; 0 by the template 'total and deterministic' (their statements: YtdjhpdacglojaaaGreatTotals.lean).
  GIVEN WITH THE SEED: the statements are not yours to turn. If you find one false, say at which input.
  Laid BY PROGRAM, IN A SANDBOX (cutbox-rows.mjs): the forced cells as the released guide's own fill.sh prints them over the translation e7aade9c182ebb05… (all of the seat's roots in one cut). By AI agents, Wed Nov 11 2026. No macro, syntax, notation, axiom, sorry.
-/
import Derived.Test.YtdjhpdacglojaaaGreatChecked
import GoSem.Claim
import GoSem.ClaimJoined
import GoSem.ClaimMapViews
import Derived.JoinedTies
import Derived.KernelRfl
namespace Go.Proofs.YtdjhpdacglojaaaGreat
/- THE CELL 'sum', in the pinned program and in every row, IS THE sha256 OF THE DUMP (.gsa) THAT YtdjhpdacglojaaaGreatProg.lean LOADS. Nothing in Lean hashes anything: it is a label: what it is worth is what the hold of that sum in a sandbox is worth. -/
noncomputable def Tryz.pinned : Pinned := { name := "ytdjhpdacglojaaagreat", sum := "e7aade9c182ebb05bd776eda557fc5276313ca1bf0738db7fe9c64c7fb8a3764", checked := Tryz.checked }
namespace Rows
def none {H : Type} : Left H := { results := [], args := [] }

/-- 'linchpinlaw24.EnginePlays': WHATEVER THE INPUT: true; the input reads as it did. -/
def enginePlaysSpec : ChangeSpec := { name := "enginePlays", fn := fun _ => fun
  | [d1, d2] => { results := [.lit (.bool true)], args := [d1, d2] }
  | _ => none }
def enginePlaysRow : OpenClaim := { program := "ytdjhpdacglojaaagreat", sum := "e7aade9c182ebb05bd776eda557fc5276313ca1bf0738db7fe9c64c7fb8a3764", func := "linchpin/linchpinlaw24.EnginePlays", spec := "enginePlays", unfollowed := true, recurses := true, apart := false }
def EnginePlaysSaid : Prop := enginePlaysRow.holds Tryz.pinned (OpenSpec.ofChange enginePlaysSpec)

/-- ITS FALSE NEIGHBOUR: 'it returns false'. Refute it at one input. -/
def enginePlaysWrong : ChangeSpec := { name := "enginePlays", fn := fun _ => fun
  | [d1, d2] => { results := [.lit (.bool false)], args := [d1, d2] }
  | _ => none }
def EnginePlaysWrongFalsely : Prop := enginePlaysRow.holds Tryz.pinned (OpenSpec.ofChange enginePlaysWrong)

/-- 'linchpinlaw24.EngineSteals': WHATEVER THE INPUT: true; the input reads as it did. -/
def engineStealsSpec : ChangeSpec := { name := "engineSteals", fn := fun _ => fun
  | [d1, d2, d3] => { results := [.lit (.bool true)], args := [d1, d2, d3] }
  | _ => none }
def engineStealsRow : OpenClaim := { program := "ytdjhpdacglojaaagreat", sum := "e7aade9c182ebb05bd776eda557fc5276313ca1bf0738db7fe9c64c7fb8a3764", func := "linchpin/linchpinlaw24.EngineSteals", spec := "engineSteals", unfollowed := true, recurses := true, apart := false }
def EngineStealsSaid : Prop := engineStealsRow.holds Tryz.pinned (OpenSpec.ofChange engineStealsSpec)

/-- ITS FALSE NEIGHBOUR: 'it returns false'. Refute it at one input. -/
def engineStealsWrong : ChangeSpec := { name := "engineSteals", fn := fun _ => fun
  | [d1, d2, d3] => { results := [.lit (.bool false)], args := [d1, d2, d3] }
  | _ => none }
def EngineStealsWrongFalsely : Prop := engineStealsRow.holds Tryz.pinned (OpenSpec.ofChange engineStealsWrong)

/-- 'linchpinlaw24.EngineWhole': WHATEVER THE INPUT: true; the input reads as it did. -/
def engineWholeSpec : ChangeSpec := { name := "engineWhole", fn := fun _ => fun
  | [d1, d2, d3] => { results := [.lit (.bool true)], args := [d1, d2, d3] }
  | _ => none }
def engineWholeRow : OpenClaim := { program := "ytdjhpdacglojaaagreat", sum := "e7aade9c182ebb05bd776eda557fc5276313ca1bf0738db7fe9c64c7fb8a3764", func := "linchpin/linchpinlaw24.EngineWhole", spec := "engineWhole", unfollowed := true, recurses := true, apart := false }
def EngineWholeSaid : Prop := engineWholeRow.holds Tryz.pinned (OpenSpec.ofChange engineWholeSpec)

/-- ITS FALSE NEIGHBOUR: 'it returns false'. Refute it at one input. -/
def engineWholeWrong : ChangeSpec := { name := "engineWhole", fn := fun _ => fun
  | [d1, d2, d3] => { results := [.lit (.bool false)], args := [d1, d2, d3] }
  | _ => none }
def EngineWholeWrongFalsely : Prop := engineWholeRow.holds Tryz.pinned (OpenSpec.ofChange engineWholeWrong)

/-- 'linchpinlaw24.EngineQuiet': WHATEVER THE INPUT: true; the input reads as it did. -/
def engineQuietSpec : ChangeSpec := { name := "engineQuiet", fn := fun _ => fun
  | [d] => { results := [.lit (.bool true)], args := [d] }
  | _ => none }
def engineQuietRow : OpenClaim := { program := "ytdjhpdacglojaaagreat", sum := "e7aade9c182ebb05bd776eda557fc5276313ca1bf0738db7fe9c64c7fb8a3764", func := "linchpin/linchpinlaw24.EngineQuiet", spec := "engineQuiet", unfollowed := true, recurses := true, apart := false }
def EngineQuietSaid : Prop := engineQuietRow.holds Tryz.pinned (OpenSpec.ofChange engineQuietSpec)

/-- ITS FALSE NEIGHBOUR: 'it returns false'. Refute it at one input. -/
def engineQuietWrong : ChangeSpec := { name := "engineQuiet", fn := fun _ => fun
  | [d] => { results := [.lit (.bool false)], args := [d] }
  | _ => none }
def EngineQuietWrongFalsely : Prop := engineQuietRow.holds Tryz.pinned (OpenSpec.ofChange engineQuietWrong)

/- THE SECOND FORM. 'bulk': how many values and letters a reading holds, each counted each time it is reached (what is shared counts as often as it is met; a slice's spare places count too). A statement '..UptoSaid' is the law's where the arguments, and the package variables that the reading takes, are together of bulk at most 1048576: NARROWER than '..Said'. Prove '..Said' where nothing that the law and all that it calls make is longer than what came in: it says more and counts as full. Else prove '..UptoSaid'. A law counts once. -/
mutual
def uptoBulk {H : Type} : DataW H → Nat
  | .lit (.string bytes) => bytes.length + 1
  | .lit _ => 1
  | .nil => 1
  | .ptr d => uptoBulk d + 1
  | .slice elems spare => uptoBulkAll elems + uptoBulkAll spare + 1
  | .agg parts => uptoBulkAll parts + 1
  | .iface _ d => uptoBulk d + 1
  | .map entries => uptoBulkEntries entries + 1
  | .held _ => 1
def uptoBulkAll {H : Type} : List (DataW H) → Nat
  | [] => 0
  | d :: r => uptoBulk d + uptoBulkAll r
def uptoBulkEntries {H : Type} : List (Lit × DataW H) → Nat
  | [] => 0
  | x :: r => uptoBulkEntry x + uptoBulkEntries r
def uptoBulkEntry {H : Type} : Lit × DataW H → Nat
  | (.string bytes, d) => bytes.length + uptoBulk d + 1
  | (_, d) => uptoBulk d + 1
 end
def uptoSmall : (H : Type) → List (DataW H) → Bool := fun _ ds => decide (uptoBulkAll ds ≤ 1048576)
def OpenSpec.upto (s : _root_.Go.ChangeSpec) : _root_.Go.OpenSpec := { _root_.Go.OpenSpec.ofChange s with cond := some uptoSmall }

/-- 'linchpinlaw24.EnginePlays', WHERE WHAT IT READS IS OF BULK AT MOST 1048576: true; the input reads as it did. -/
def enginePlaysUptoRow : OpenClaim := { program := "ytdjhpdacglojaaagreat", sum := "e7aade9c182ebb05bd776eda557fc5276313ca1bf0738db7fe9c64c7fb8a3764", func := "linchpin/linchpinlaw24.EnginePlays", spec := "enginePlays", unfollowed := true, recurses := true, apart := false, narrowed := true }
def EnginePlaysUptoSaid : Prop := enginePlaysUptoRow.holds Tryz.pinned (OpenSpec.upto enginePlaysSpec)

/-- 'linchpinlaw24.EngineSteals', WHERE WHAT IT READS IS OF BULK AT MOST 1048576: true; the input reads as it did. -/
def engineStealsUptoRow : OpenClaim := { program := "ytdjhpdacglojaaagreat", sum := "e7aade9c182ebb05bd776eda557fc5276313ca1bf0738db7fe9c64c7fb8a3764", func := "linchpin/linchpinlaw24.EngineSteals", spec := "engineSteals", unfollowed := true, recurses := true, apart := false, narrowed := true }
def EngineStealsUptoSaid : Prop := engineStealsUptoRow.holds Tryz.pinned (OpenSpec.upto engineStealsSpec)

/-- 'linchpinlaw24.EngineWhole', WHERE WHAT IT READS IS OF BULK AT MOST 1048576: true; the input reads as it did. -/
def engineWholeUptoRow : OpenClaim := { program := "ytdjhpdacglojaaagreat", sum := "e7aade9c182ebb05bd776eda557fc5276313ca1bf0738db7fe9c64c7fb8a3764", func := "linchpin/linchpinlaw24.EngineWhole", spec := "engineWhole", unfollowed := true, recurses := true, apart := false, narrowed := true }
def EngineWholeUptoSaid : Prop := engineWholeUptoRow.holds Tryz.pinned (OpenSpec.upto engineWholeSpec)

/-- 'linchpinlaw24.EngineQuiet', WHERE WHAT IT READS IS OF BULK AT MOST 1048576: true; the input reads as it did. -/
def engineQuietUptoRow : OpenClaim := { program := "ytdjhpdacglojaaagreat", sum := "e7aade9c182ebb05bd776eda557fc5276313ca1bf0738db7fe9c64c7fb8a3764", func := "linchpin/linchpinlaw24.EngineQuiet", spec := "engineQuiet", unfollowed := true, recurses := true, apart := false, narrowed := true }
def EngineQuietUptoSaid : Prop := engineQuietUptoRow.holds Tryz.pinned (OpenSpec.upto engineQuietSpec)

end Rows
end Go.Proofs.YtdjhpdacglojaaaGreat
