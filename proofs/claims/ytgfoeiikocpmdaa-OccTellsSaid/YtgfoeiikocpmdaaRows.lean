/-
  No cell of these rows narrows 'for every input' (looked for: loops, veiled, ifaces, maps, wideKeys, modest, calm, conditions, laid).
  DERIVED. THE GIVEN ROWS OF THIS SEAT. 3 by the template 'for every input the law returns true; each argument reads behind the call as it read before'; 0 by the template 'total and deterministic' (their statements: YtgfoeiikocpmdaaTotals.lean).
  GIVEN WITH THE SEED: the statements are not yours to turn. If you find one false, say at which input.
  Laid BY PROGRAM, IN A SANDBOX (cutbox-rows.mjs): the forced cells as the released guide's own fill.sh prints them over the translation 6cada46dfb623a09… (all of the seat's roots in one cut). By AI agents, Wed Nov 11 2026. No macro, syntax, notation, axiom, sorry.
-/
import Derived.Test.YtgfoeiikocpmdaaChecked
import GoSem.Claim
import GoSem.ClaimJoined
import GoSem.ClaimMapViews
import Derived.JoinedTies
import Derived.KernelRfl
namespace Go.Proofs.Ytgfoeiikocpmdaa
/- THE CELL 'sum', in the pinned program and in every row, IS THE sha256 OF THE DUMP (.gsa) THAT YtgfoeiikocpmdaaProg.lean LOADS. Nothing in Lean hashes anything: it is a label: what it is worth is what the hold of that sum in a sandbox is worth. -/
noncomputable def Try.pinned : Pinned := { name := "ytgfoeiikocpmdaa", sum := "6cada46dfb623a099af08b8902068d1d4c9242ed772bb0ece0c4888d346654e5", checked := Try.checked }
namespace Rows
def none {H : Type} : Left H := { results := [], args := [] }

/-- 'minuterielaw15.OccTurns': WHATEVER THE INPUT: true; the input reads as it did. -/
def occTurnsSpec : ChangeSpec := { name := "occTurns", fn := fun _ => fun
  | [d1, d2, d3, d4] => { results := [.lit (.bool true)], args := [d1, d2, d3, d4] }
  | _ => none }
def occTurnsRow : OpenClaim := { program := "ytgfoeiikocpmdaa", sum := "6cada46dfb623a099af08b8902068d1d4c9242ed772bb0ece0c4888d346654e5", func := "minuterie/minuterielaw15.OccTurns", spec := "occTurns", unfollowed := true, recurses := true, apart := false }
def OccTurnsSaid : Prop := occTurnsRow.holds Try.pinned (OpenSpec.ofChange occTurnsSpec)

/-- ITS FALSE NEIGHBOUR: 'it returns false'. Refute it at one input. -/
def occTurnsWrong : ChangeSpec := { name := "occTurns", fn := fun _ => fun
  | [d1, d2, d3, d4] => { results := [.lit (.bool false)], args := [d1, d2, d3, d4] }
  | _ => none }
def OccTurnsWrongFalsely : Prop := occTurnsRow.holds Try.pinned (OpenSpec.ofChange occTurnsWrong)

/-- 'minuterielaw15.OccTells': WHATEVER THE INPUT: true; the input reads as it did. -/
def occTellsSpec : ChangeSpec := { name := "occTells", fn := fun _ => fun
  | [d1, d2] => { results := [.lit (.bool true)], args := [d1, d2] }
  | _ => none }
def occTellsRow : OpenClaim := { program := "ytgfoeiikocpmdaa", sum := "6cada46dfb623a099af08b8902068d1d4c9242ed772bb0ece0c4888d346654e5", func := "minuterie/minuterielaw15.OccTells", spec := "occTells", unfollowed := true, recurses := true, apart := false }
def OccTellsSaid : Prop := occTellsRow.holds Try.pinned (OpenSpec.ofChange occTellsSpec)

/-- ITS FALSE NEIGHBOUR: 'it returns false'. Refute it at one input. -/
def occTellsWrong : ChangeSpec := { name := "occTells", fn := fun _ => fun
  | [d1, d2] => { results := [.lit (.bool false)], args := [d1, d2] }
  | _ => none }
def OccTellsWrongFalsely : Prop := occTellsRow.holds Try.pinned (OpenSpec.ofChange occTellsWrong)

/-- 'minuterielaw15.OccGoes': WHATEVER THE INPUT: true; the input reads as it did. -/
def occGoesSpec : ChangeSpec := { name := "occGoes", fn := fun _ => fun
  | [d1, d2] => { results := [.lit (.bool true)], args := [d1, d2] }
  | _ => none }
def occGoesRow : OpenClaim := { program := "ytgfoeiikocpmdaa", sum := "6cada46dfb623a099af08b8902068d1d4c9242ed772bb0ece0c4888d346654e5", func := "minuterie/minuterielaw15.OccGoes", spec := "occGoes", unfollowed := true, recurses := true, apart := false }
def OccGoesSaid : Prop := occGoesRow.holds Try.pinned (OpenSpec.ofChange occGoesSpec)

/-- ITS FALSE NEIGHBOUR: 'it returns false'. Refute it at one input. -/
def occGoesWrong : ChangeSpec := { name := "occGoes", fn := fun _ => fun
  | [d1, d2] => { results := [.lit (.bool false)], args := [d1, d2] }
  | _ => none }
def OccGoesWrongFalsely : Prop := occGoesRow.holds Try.pinned (OpenSpec.ofChange occGoesWrong)

/- THE SECOND FORM. 'bulk': how many values and letters a reading holds, each counted each time it is reached (what is shared counts as often as it is met; a slice's spare places count too). A statement '..UptoSaid' is the law's where the arguments, and the package variables that the reading takes, are together of bulk at most 1048576: NARROWER than '..Said'. Prove '..Said' where nothing that the law and all that it calls make is longer than what came in: it says more and counts as full. Else prove '..UptoSaid'. A law counts once. -/
mutual
def uptoBulk {H : Type} : DataW H → Nat
  | .lit (.string bytes) => bytes.length + 1
  | .lit _ => 1
  | .nil => 1
  | .ptr d => uptoBulk d + 1
  | .slice elems spare => uptoBulkAll elems + uptoBulkAll spare + 1
  | .agg parts => uptoBulkAll parts + 1
  | .iface _ d => uptoBulk d + 1
  | .map entries => uptoBulkEntries entries + 1
  | .held _ => 1
def uptoBulkAll {H : Type} : List (DataW H) → Nat
  | [] => 0
  | d :: r => uptoBulk d + uptoBulkAll r
def uptoBulkEntries {H : Type} : List (Lit × DataW H) → Nat
  | [] => 0
  | x :: r => uptoBulkEntry x + uptoBulkEntries r
def uptoBulkEntry {H : Type} : Lit × DataW H → Nat
  | (.string bytes, d) => bytes.length + uptoBulk d + 1
  | (_, d) => uptoBulk d + 1
 end
def uptoSmall : (H : Type) → List (DataW H) → Bool := fun _ ds => decide (uptoBulkAll ds ≤ 1048576)
def OpenSpec.upto (s : _root_.Go.ChangeSpec) : _root_.Go.OpenSpec := { _root_.Go.OpenSpec.ofChange s with cond := some uptoSmall }

/-- 'minuterielaw15.OccTurns', WHERE WHAT IT READS IS OF BULK AT MOST 1048576: true; the input reads as it did. -/
def occTurnsUptoRow : OpenClaim := { program := "ytgfoeiikocpmdaa", sum := "6cada46dfb623a099af08b8902068d1d4c9242ed772bb0ece0c4888d346654e5", func := "minuterie/minuterielaw15.OccTurns", spec := "occTurns", unfollowed := true, recurses := true, apart := false, narrowed := true }
def OccTurnsUptoSaid : Prop := occTurnsUptoRow.holds Try.pinned (OpenSpec.upto occTurnsSpec)

/-- 'minuterielaw15.OccTells', WHERE WHAT IT READS IS OF BULK AT MOST 1048576: true; the input reads as it did. -/
def occTellsUptoRow : OpenClaim := { program := "ytgfoeiikocpmdaa", sum := "6cada46dfb623a099af08b8902068d1d4c9242ed772bb0ece0c4888d346654e5", func := "minuterie/minuterielaw15.OccTells", spec := "occTells", unfollowed := true, recurses := true, apart := false, narrowed := true }
def OccTellsUptoSaid : Prop := occTellsUptoRow.holds Try.pinned (OpenSpec.upto occTellsSpec)

/-- 'minuterielaw15.OccGoes', WHERE WHAT IT READS IS OF BULK AT MOST 1048576: true; the input reads as it did. -/
def occGoesUptoRow : OpenClaim := { program := "ytgfoeiikocpmdaa", sum := "6cada46dfb623a099af08b8902068d1d4c9242ed772bb0ece0c4888d346654e5", func := "minuterie/minuterielaw15.OccGoes", spec := "occGoes", unfollowed := true, recurses := true, apart := false, narrowed := true }
def OccGoesUptoSaid : Prop := occGoesUptoRow.holds Try.pinned (OpenSpec.upto occGoesSpec)

end Rows
end Go.Proofs.Ytgfoeiikocpmdaa
