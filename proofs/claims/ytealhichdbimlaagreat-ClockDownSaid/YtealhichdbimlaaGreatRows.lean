/-
  No cell of these rows narrows 'for every input' (looked for: loops, veiled, ifaces, maps, wideKeys, modest, calm, conditions, laid).
  DERIVED. THE GIVEN ROWS OF THIS SEAT. 4 by the template 'for every input the law returns true; each argument reads behind the call as it read before'; 0 by the template 'total and deterministic' (their statements: YtealhichdbimlaaGreatTotals.lean).
  GIVEN WITH THE SEED: the statements are not yours to turn. If you find one false, say at which input.
  Laid BY PROGRAM, IN A SANDBOX (cutbox-rows.mjs): the forced cells as the released guide's own fill.sh prints them over the translation 5ac946f5e8494acb… (all of the seat's roots in one cut). By AI agents, Wed Nov 11 2026. No macro, syntax, notation, axiom, sorry.
-/
import Derived.Test.YtealhichdbimlaaGreatChecked
import GoSem.Claim
import GoSem.ClaimJoined
import GoSem.ClaimMapViews
import Derived.JoinedTies
import Derived.KernelRfl
namespace Go.Proofs.YtealhichdbimlaaGreat
/- THE CELL 'sum', in the pinned program and in every row, IS THE sha256 OF THE DUMP (.gsa) THAT YtealhichdbimlaaGreatProg.lean LOADS. Nothing in Lean hashes anything: it is a label: what it is worth is what the hold of that sum in a sandbox is worth. -/
noncomputable def Tryz.pinned : Pinned := { name := "ytealhichdbimlaagreat", sum := "5ac946f5e8494acba000bc941dadbe518d46a723417f7d1bef9fb13eff719bff", checked := Tryz.checked }
namespace Rows
def none {H : Type} : Left H := { results := [], args := [] }

/-- 'minuterielaw13.ClockReads': WHATEVER THE INPUT: true; the input reads as it did. -/
def clockReadsSpec : ChangeSpec := { name := "clockReads", fn := fun _ => fun
  | [d1, d2, d3, d4] => { results := [.lit (.bool true)], args := [d1, d2, d3, d4] }
  | _ => none }
def clockReadsRow : OpenClaim := { program := "ytealhichdbimlaagreat", sum := "5ac946f5e8494acba000bc941dadbe518d46a723417f7d1bef9fb13eff719bff", func := "minuterie/minuterielaw13.ClockReads", spec := "clockReads", inPlace := ["maps.clone"], unfollowed := true, recurses := true, plainKeys := false, apart := false }
def ClockReadsSaid : Prop := clockReadsRow.holds Tryz.pinned (OpenSpec.ofChange clockReadsSpec)

/-- ITS FALSE NEIGHBOUR: 'it returns false'. Refute it at one input. -/
def clockReadsWrong : ChangeSpec := { name := "clockReads", fn := fun _ => fun
  | [d1, d2, d3, d4] => { results := [.lit (.bool false)], args := [d1, d2, d3, d4] }
  | _ => none }
def ClockReadsWrongFalsely : Prop := clockReadsRow.holds Tryz.pinned (OpenSpec.ofChange clockReadsWrong)

/-- 'minuterielaw13.ClockBetween': WHATEVER THE INPUT: true; the input reads as it did. -/
def clockBetweenSpec : ChangeSpec := { name := "clockBetween", fn := fun _ => fun
  | [d1, d2, d3] => { results := [.lit (.bool true)], args := [d1, d2, d3] }
  | _ => none }
def clockBetweenRow : OpenClaim := { program := "ytealhichdbimlaagreat", sum := "5ac946f5e8494acba000bc941dadbe518d46a723417f7d1bef9fb13eff719bff", func := "minuterie/minuterielaw13.ClockBetween", spec := "clockBetween", inPlace := ["maps.clone"], unfollowed := true, recurses := true, plainKeys := false, apart := false }
def ClockBetweenSaid : Prop := clockBetweenRow.holds Tryz.pinned (OpenSpec.ofChange clockBetweenSpec)

/-- ITS FALSE NEIGHBOUR: 'it returns false'. Refute it at one input. -/
def clockBetweenWrong : ChangeSpec := { name := "clockBetween", fn := fun _ => fun
  | [d1, d2, d3] => { results := [.lit (.bool false)], args := [d1, d2, d3] }
  | _ => none }
def ClockBetweenWrongFalsely : Prop := clockBetweenRow.holds Tryz.pinned (OpenSpec.ofChange clockBetweenWrong)

/-- 'minuterielaw13.ClockDown': WHATEVER THE INPUT: true; the input reads as it did. -/
def clockDownSpec : ChangeSpec := { name := "clockDown", fn := fun _ => fun
  | [d1, d2, d3] => { results := [.lit (.bool true)], args := [d1, d2, d3] }
  | _ => none }
def clockDownRow : OpenClaim := { program := "ytealhichdbimlaagreat", sum := "5ac946f5e8494acba000bc941dadbe518d46a723417f7d1bef9fb13eff719bff", func := "minuterie/minuterielaw13.ClockDown", spec := "clockDown", inPlace := ["maps.clone"], unfollowed := true, recurses := true, plainKeys := false, apart := false }
def ClockDownSaid : Prop := clockDownRow.holds Tryz.pinned (OpenSpec.ofChange clockDownSpec)

/-- ITS FALSE NEIGHBOUR: 'it returns false'. Refute it at one input. -/
def clockDownWrong : ChangeSpec := { name := "clockDown", fn := fun _ => fun
  | [d1, d2, d3] => { results := [.lit (.bool false)], args := [d1, d2, d3] }
  | _ => none }
def ClockDownWrongFalsely : Prop := clockDownRow.holds Tryz.pinned (OpenSpec.ofChange clockDownWrong)

/-- 'minuterielaw13.ClockNil': WHATEVER THE INPUT: true; the input reads as it did. -/
def clockNilSpec : ChangeSpec := { name := "clockNil", fn := fun _ => fun
  | [d] => { results := [.lit (.bool true)], args := [d] }
  | _ => none }
def clockNilRow : OpenClaim := { program := "ytealhichdbimlaagreat", sum := "5ac946f5e8494acba000bc941dadbe518d46a723417f7d1bef9fb13eff719bff", func := "minuterie/minuterielaw13.ClockNil", spec := "clockNil", unfollowed := true, recurses := true, plainKeys := false, apart := false }
def ClockNilSaid : Prop := clockNilRow.holds Tryz.pinned (OpenSpec.ofChange clockNilSpec)

/-- ITS FALSE NEIGHBOUR: 'it returns false'. Refute it at one input. -/
def clockNilWrong : ChangeSpec := { name := "clockNil", fn := fun _ => fun
  | [d] => { results := [.lit (.bool false)], args := [d] }
  | _ => none }
def ClockNilWrongFalsely : Prop := clockNilRow.holds Tryz.pinned (OpenSpec.ofChange clockNilWrong)

/- THE SECOND FORM. 'bulk': how many values and letters a reading holds, each counted each time it is reached (what is shared counts as often as it is met; a slice's spare places count too). A statement '..UptoSaid' is the law's where the arguments, and the package variables that the reading takes, are together of bulk at most 1048576: NARROWER than '..Said'. Prove '..Said' where nothing that the law and all that it calls make is longer than what came in: it says more and counts as full. Else prove '..UptoSaid'. A law counts once. -/
mutual
def uptoBulk {H : Type} : DataW H → Nat
  | .lit (.string bytes) => bytes.length + 1
  | .lit _ => 1
  | .nil => 1
  | .ptr d => uptoBulk d + 1
  | .slice elems spare => uptoBulkAll elems + uptoBulkAll spare + 1
  | .agg parts => uptoBulkAll parts + 1
  | .iface _ d => uptoBulk d + 1
  | .map entries => uptoBulkEntries entries + 1
  | .held _ => 1
def uptoBulkAll {H : Type} : List (DataW H) → Nat
  | [] => 0
  | d :: r => uptoBulk d + uptoBulkAll r
def uptoBulkEntries {H : Type} : List (Lit × DataW H) → Nat
  | [] => 0
  | x :: r => uptoBulkEntry x + uptoBulkEntries r
def uptoBulkEntry {H : Type} : Lit × DataW H → Nat
  | (.string bytes, d) => bytes.length + uptoBulk d + 1
  | (_, d) => uptoBulk d + 1
 end
def uptoSmall : (H : Type) → List (DataW H) → Bool := fun _ ds => decide (uptoBulkAll ds ≤ 1048576)
def OpenSpec.upto (s : _root_.Go.ChangeSpec) : _root_.Go.OpenSpec := { _root_.Go.OpenSpec.ofChange s with cond := some uptoSmall }

/-- 'minuterielaw13.ClockReads', WHERE WHAT IT READS IS OF BULK AT MOST 1048576: true; the input reads as it did. -/
def clockReadsUptoRow : OpenClaim := { program := "ytealhichdbimlaagreat", sum := "5ac946f5e8494acba000bc941dadbe518d46a723417f7d1bef9fb13eff719bff", func := "minuterie/minuterielaw13.ClockReads", spec := "clockReads", inPlace := ["maps.clone"], unfollowed := true, recurses := true, plainKeys := false, apart := false, narrowed := true }
def ClockReadsUptoSaid : Prop := clockReadsUptoRow.holds Tryz.pinned (OpenSpec.upto clockReadsSpec)

/-- 'minuterielaw13.ClockBetween', WHERE WHAT IT READS IS OF BULK AT MOST 1048576: true; the input reads as it did. -/
def clockBetweenUptoRow : OpenClaim := { program := "ytealhichdbimlaagreat", sum := "5ac946f5e8494acba000bc941dadbe518d46a723417f7d1bef9fb13eff719bff", func := "minuterie/minuterielaw13.ClockBetween", spec := "clockBetween", inPlace := ["maps.clone"], unfollowed := true, recurses := true, plainKeys := false, apart := false, narrowed := true }
def ClockBetweenUptoSaid : Prop := clockBetweenUptoRow.holds Tryz.pinned (OpenSpec.upto clockBetweenSpec)

/-- 'minuterielaw13.ClockDown', WHERE WHAT IT READS IS OF BULK AT MOST 1048576: true; the input reads as it did. -/
def clockDownUptoRow : OpenClaim := { program := "ytealhichdbimlaagreat", sum := "5ac946f5e8494acba000bc941dadbe518d46a723417f7d1bef9fb13eff719bff", func := "minuterie/minuterielaw13.ClockDown", spec := "clockDown", inPlace := ["maps.clone"], unfollowed := true, recurses := true, plainKeys := false, apart := false, narrowed := true }
def ClockDownUptoSaid : Prop := clockDownUptoRow.holds Tryz.pinned (OpenSpec.upto clockDownSpec)

/-- 'minuterielaw13.ClockNil', WHERE WHAT IT READS IS OF BULK AT MOST 1048576: true; the input reads as it did. -/
def clockNilUptoRow : OpenClaim := { program := "ytealhichdbimlaagreat", sum := "5ac946f5e8494acba000bc941dadbe518d46a723417f7d1bef9fb13eff719bff", func := "minuterie/minuterielaw13.ClockNil", spec := "clockNil", unfollowed := true, recurses := true, plainKeys := false, apart := false, narrowed := true }
def ClockNilUptoSaid : Prop := clockNilUptoRow.holds Tryz.pinned (OpenSpec.upto clockNilSpec)

end Rows
end Go.Proofs.YtealhichdbimlaaGreat
