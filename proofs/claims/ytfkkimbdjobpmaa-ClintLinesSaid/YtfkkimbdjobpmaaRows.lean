/-
  No cell of these rows narrows 'for every input' (looked for: loops, veiled, ifaces, maps, wideKeys, modest, calm, conditions, laid).
  DERIVED. THE GIVEN ROWS OF THIS SEAT. 3 by the template 'for every input the law returns true; each argument reads behind the call as it read before'; 0 by the template 'total and deterministic' (their statements: YtfkkimbdjobpmaaTotals.lean).
  GIVEN WITH THE SEED: the statements are not yours to turn. If you find one false, say at which input.
  Laid BY PROGRAM, IN A SANDBOX (cutbox-rows.mjs): the forced cells as the released guide's own fill.sh prints them over the translation 3c45523e8edfd65d… (all of the seat's roots in one cut). By AI agents, Wed Nov 11 2026. No macro, syntax, notation, axiom, sorry.
-/
import Derived.Test.YtfkkimbdjobpmaaChecked
import GoSem.Claim
import GoSem.ClaimJoined
import GoSem.ClaimMapViews
import Derived.JoinedTies
import Derived.KernelRfl
namespace Go.Proofs.Ytfkkimbdjobpmaa
/- THE CELL 'sum', in the pinned program and in every row, IS THE sha256 OF THE DUMP (.gsa) THAT YtfkkimbdjobpmaaProg.lean LOADS. Nothing in Lean hashes anything: it is a label: what it is worth is what the hold of that sum in a sandbox is worth. -/
noncomputable def Try.pinned : Pinned := { name := "ytfkkimbdjobpmaa", sum := "3c45523e8edfd65d59daef984248c9f0e6069604f62c20188f59e067fc3b6418", checked := Try.checked }
namespace Rows
def none {H : Type} : Left H := { results := [], args := [] }

/-- 'minuterielaw05.ClintPlays': WHATEVER THE INPUT: true; the input reads as it did. -/
def clintPlaysSpec : ChangeSpec := { name := "clintPlays", fn := fun _ => fun
  | [d1, d2] => { results := [.lit (.bool true)], args := [d1, d2] }
  | _ => none }
def clintPlaysRow : OpenClaim := { program := "ytfkkimbdjobpmaa", sum := "3c45523e8edfd65d59daef984248c9f0e6069604f62c20188f59e067fc3b6418", func := "minuterie/minuterielaw05.ClintPlays", spec := "clintPlays", inPlace := ["maps.clone"], unfollowed := true, recurses := true, plainKeys := false, apart := false }
def ClintPlaysSaid : Prop := clintPlaysRow.holds Try.pinned (OpenSpec.ofChange clintPlaysSpec)

/-- ITS FALSE NEIGHBOUR: 'it returns false'. Refute it at one input. -/
def clintPlaysWrong : ChangeSpec := { name := "clintPlays", fn := fun _ => fun
  | [d1, d2] => { results := [.lit (.bool false)], args := [d1, d2] }
  | _ => none }
def ClintPlaysWrongFalsely : Prop := clintPlaysRow.holds Try.pinned (OpenSpec.ofChange clintPlaysWrong)

/-- 'minuterielaw05.ClintLines': WHATEVER THE INPUT: true; the input reads as it did. -/
def clintLinesSpec : ChangeSpec := { name := "clintLines", fn := fun _ => fun
  | [d1, d2, d3, d4, d5, d6] => { results := [.lit (.bool true)], args := [d1, d2, d3, d4, d5, d6] }
  | _ => none }
def clintLinesRow : OpenClaim := { program := "ytfkkimbdjobpmaa", sum := "3c45523e8edfd65d59daef984248c9f0e6069604f62c20188f59e067fc3b6418", func := "minuterie/minuterielaw05.ClintLines", spec := "clintLines", inPlace := ["maps.clone"], unfollowed := true, recurses := true, plainKeys := false, apart := false }
def ClintLinesSaid : Prop := clintLinesRow.holds Try.pinned (OpenSpec.ofChange clintLinesSpec)

/-- ITS FALSE NEIGHBOUR: 'it returns false'. Refute it at one input. -/
def clintLinesWrong : ChangeSpec := { name := "clintLines", fn := fun _ => fun
  | [d1, d2, d3, d4, d5, d6] => { results := [.lit (.bool false)], args := [d1, d2, d3, d4, d5, d6] }
  | _ => none }
def ClintLinesWrongFalsely : Prop := clintLinesRow.holds Try.pinned (OpenSpec.ofChange clintLinesWrong)

/-- 'minuterielaw05.ClintNil': WHATEVER THE INPUT: true; the input reads as it did. -/
def clintNilSpec : ChangeSpec := { name := "clintNil", fn := fun _ => fun
  | [d1, d2, d3] => { results := [.lit (.bool true)], args := [d1, d2, d3] }
  | _ => none }
def clintNilRow : OpenClaim := { program := "ytfkkimbdjobpmaa", sum := "3c45523e8edfd65d59daef984248c9f0e6069604f62c20188f59e067fc3b6418", func := "minuterie/minuterielaw05.ClintNil", spec := "clintNil", inPlace := ["maps.clone"], unfollowed := true, recurses := true, plainKeys := false, apart := false }
def ClintNilSaid : Prop := clintNilRow.holds Try.pinned (OpenSpec.ofChange clintNilSpec)

/-- ITS FALSE NEIGHBOUR: 'it returns false'. Refute it at one input. -/
def clintNilWrong : ChangeSpec := { name := "clintNil", fn := fun _ => fun
  | [d1, d2, d3] => { results := [.lit (.bool false)], args := [d1, d2, d3] }
  | _ => none }
def ClintNilWrongFalsely : Prop := clintNilRow.holds Try.pinned (OpenSpec.ofChange clintNilWrong)

/- THE SECOND FORM. 'bulk': how many values and letters a reading holds, each counted each time it is reached (what is shared counts as often as it is met; a slice's spare places count too). A statement '..UptoSaid' is the law's where the arguments, and the package variables that the reading takes, are together of bulk at most 1048576: NARROWER than '..Said'. Prove '..Said' where nothing that the law and all that it calls make is longer than what came in: it says more and counts as full. Else prove '..UptoSaid'. A law counts once. -/
mutual
def uptoBulk {H : Type} : DataW H → Nat
  | .lit (.string bytes) => bytes.length + 1
  | .lit _ => 1
  | .nil => 1
  | .ptr d => uptoBulk d + 1
  | .slice elems spare => uptoBulkAll elems + uptoBulkAll spare + 1
  | .agg parts => uptoBulkAll parts + 1
  | .iface _ d => uptoBulk d + 1
  | .map entries => uptoBulkEntries entries + 1
  | .held _ => 1
def uptoBulkAll {H : Type} : List (DataW H) → Nat
  | [] => 0
  | d :: r => uptoBulk d + uptoBulkAll r
def uptoBulkEntries {H : Type} : List (Lit × DataW H) → Nat
  | [] => 0
  | x :: r => uptoBulkEntry x + uptoBulkEntries r
def uptoBulkEntry {H : Type} : Lit × DataW H → Nat
  | (.string bytes, d) => bytes.length + uptoBulk d + 1
  | (_, d) => uptoBulk d + 1
 end
def uptoSmall : (H : Type) → List (DataW H) → Bool := fun _ ds => decide (uptoBulkAll ds ≤ 1048576)
def OpenSpec.upto (s : _root_.Go.ChangeSpec) : _root_.Go.OpenSpec := { _root_.Go.OpenSpec.ofChange s with cond := some uptoSmall }

/-- 'minuterielaw05.ClintPlays', WHERE WHAT IT READS IS OF BULK AT MOST 1048576: true; the input reads as it did. -/
def clintPlaysUptoRow : OpenClaim := { program := "ytfkkimbdjobpmaa", sum := "3c45523e8edfd65d59daef984248c9f0e6069604f62c20188f59e067fc3b6418", func := "minuterie/minuterielaw05.ClintPlays", spec := "clintPlays", inPlace := ["maps.clone"], unfollowed := true, recurses := true, plainKeys := false, apart := false, narrowed := true }
def ClintPlaysUptoSaid : Prop := clintPlaysUptoRow.holds Try.pinned (OpenSpec.upto clintPlaysSpec)

/-- 'minuterielaw05.ClintLines', WHERE WHAT IT READS IS OF BULK AT MOST 1048576: true; the input reads as it did. -/
def clintLinesUptoRow : OpenClaim := { program := "ytfkkimbdjobpmaa", sum := "3c45523e8edfd65d59daef984248c9f0e6069604f62c20188f59e067fc3b6418", func := "minuterie/minuterielaw05.ClintLines", spec := "clintLines", inPlace := ["maps.clone"], unfollowed := true, recurses := true, plainKeys := false, apart := false, narrowed := true }
def ClintLinesUptoSaid : Prop := clintLinesUptoRow.holds Try.pinned (OpenSpec.upto clintLinesSpec)

/-- 'minuterielaw05.ClintNil', WHERE WHAT IT READS IS OF BULK AT MOST 1048576: true; the input reads as it did. -/
def clintNilUptoRow : OpenClaim := { program := "ytfkkimbdjobpmaa", sum := "3c45523e8edfd65d59daef984248c9f0e6069604f62c20188f59e067fc3b6418", func := "minuterie/minuterielaw05.ClintNil", spec := "clintNil", inPlace := ["maps.clone"], unfollowed := true, recurses := true, plainKeys := false, apart := false, narrowed := true }
def ClintNilUptoSaid : Prop := clintNilUptoRow.holds Try.pinned (OpenSpec.upto clintNilSpec)

end Rows
end Go.Proofs.Ytfkkimbdjobpmaa
