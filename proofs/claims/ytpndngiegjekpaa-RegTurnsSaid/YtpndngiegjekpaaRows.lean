/-
  No cell of these rows narrows 'for every input' (looked for: loops, veiled, ifaces, maps, wideKeys, modest, calm, conditions, laid).
  DERIVED. THE GIVEN ROWS OF THIS SEAT. 4 by the template 'for every input the law returns true; each argument reads behind the call as it read before'; 0 by the template 'total and deterministic' (their statements: YtpndngiegjekpaaTotals.lean).
  GIVEN WITH THE SEED: the statements are not yours to turn. If you find one false, say at which input.
  Laid BY PROGRAM, IN A SANDBOX (cutbox-rows.mjs): the forced cells as the released guide's own fill.sh prints them over the translation 361f370ac101b6cb… (all of the seat's roots in one cut). By AI agents, Wed Nov 11 2026. No macro, syntax, notation, axiom, sorry.
-/
import Derived.Test.YtpndngiegjekpaaChecked
import GoSem.Claim
import GoSem.ClaimJoined
import GoSem.ClaimMapViews
import Derived.JoinedTies
import Derived.KernelRfl
namespace Go.Proofs.Ytpndngiegjekpaa
/- THE CELL 'sum', in the pinned program and in every row, IS THE sha256 OF THE DUMP (.gsa) THAT YtpndngiegjekpaaProg.lean LOADS. Nothing in Lean hashes anything: it is a label: what it is worth is what the hold of that sum in a sandbox is worth. -/
noncomputable def Try.pinned : Pinned := { name := "ytpndngiegjekpaa", sum := "361f370ac101b6cbe5435de625cf1ffa0be30a84565e33489cd220ab02621cf2", checked := Try.checked }
namespace Rows
def none {H : Type} : Left H := { results := [], args := [] }

/-- 'minuterielaw02.RegTurns': WHATEVER THE INPUT: true; the input reads as it did. -/
def regTurnsSpec : ChangeSpec := { name := "regTurns", fn := fun _ => fun
  | [d1, d2, d3] => { results := [.lit (.bool true)], args := [d1, d2, d3] }
  | _ => none }
def regTurnsRow : OpenClaim := { program := "ytpndngiegjekpaa", sum := "361f370ac101b6cbe5435de625cf1ffa0be30a84565e33489cd220ab02621cf2", func := "minuterie/minuterielaw02.RegTurns", spec := "regTurns", plainKeys := false, apart := false }
def RegTurnsSaid : Prop := regTurnsRow.holds Try.pinned (OpenSpec.ofChange regTurnsSpec)

/-- ITS FALSE NEIGHBOUR: 'it returns false'. Refute it at one input. -/
def regTurnsWrong : ChangeSpec := { name := "regTurns", fn := fun _ => fun
  | [d1, d2, d3] => { results := [.lit (.bool false)], args := [d1, d2, d3] }
  | _ => none }
def RegTurnsWrongFalsely : Prop := regTurnsRow.holds Try.pinned (OpenSpec.ofChange regTurnsWrong)

/-- 'minuterielaw02.RegPlays': WHATEVER THE INPUT: true; the input reads as it did. -/
def regPlaysSpec : ChangeSpec := { name := "regPlays", fn := fun _ => fun
  | [d] => { results := [.lit (.bool true)], args := [d] }
  | _ => none }
def regPlaysRow : OpenClaim := { program := "ytpndngiegjekpaa", sum := "361f370ac101b6cbe5435de625cf1ffa0be30a84565e33489cd220ab02621cf2", func := "minuterie/minuterielaw02.RegPlays", spec := "regPlays", inPlace := ["maps.clone"], unfollowed := true, recurses := true, plainKeys := false, apart := false }
def RegPlaysSaid : Prop := regPlaysRow.holds Try.pinned (OpenSpec.ofChange regPlaysSpec)

/-- ITS FALSE NEIGHBOUR: 'it returns false'. Refute it at one input. -/
def regPlaysWrong : ChangeSpec := { name := "regPlays", fn := fun _ => fun
  | [d] => { results := [.lit (.bool false)], args := [d] }
  | _ => none }
def RegPlaysWrongFalsely : Prop := regPlaysRow.holds Try.pinned (OpenSpec.ofChange regPlaysWrong)

/-- 'minuterielaw02.RegStays': WHATEVER THE INPUT: true; the input reads as it did. -/
def regStaysSpec : ChangeSpec := { name := "regStays", fn := fun _ => fun
  | [d1, d2] => { results := [.lit (.bool true)], args := [d1, d2] }
  | _ => none }
def regStaysRow : OpenClaim := { program := "ytpndngiegjekpaa", sum := "361f370ac101b6cbe5435de625cf1ffa0be30a84565e33489cd220ab02621cf2", func := "minuterie/minuterielaw02.RegStays", spec := "regStays", plainKeys := false, apart := false }
def RegStaysSaid : Prop := regStaysRow.holds Try.pinned (OpenSpec.ofChange regStaysSpec)

/-- ITS FALSE NEIGHBOUR: 'it returns false'. Refute it at one input. -/
def regStaysWrong : ChangeSpec := { name := "regStays", fn := fun _ => fun
  | [d1, d2] => { results := [.lit (.bool false)], args := [d1, d2] }
  | _ => none }
def RegStaysWrongFalsely : Prop := regStaysRow.holds Try.pinned (OpenSpec.ofChange regStaysWrong)

/-- 'minuterielaw02.RegNil': WHATEVER THE INPUT: true; the input reads as it did. -/
def regNilSpec : ChangeSpec := { name := "regNil", fn := fun _ => fun
  | [d1, d2] => { results := [.lit (.bool true)], args := [d1, d2] }
  | _ => none }
def regNilRow : OpenClaim := { program := "ytpndngiegjekpaa", sum := "361f370ac101b6cbe5435de625cf1ffa0be30a84565e33489cd220ab02621cf2", func := "minuterie/minuterielaw02.RegNil", spec := "regNil", inPlace := ["maps.clone"], unfollowed := true, recurses := true, plainKeys := false, apart := false }
def RegNilSaid : Prop := regNilRow.holds Try.pinned (OpenSpec.ofChange regNilSpec)

/-- ITS FALSE NEIGHBOUR: 'it returns false'. Refute it at one input. -/
def regNilWrong : ChangeSpec := { name := "regNil", fn := fun _ => fun
  | [d1, d2] => { results := [.lit (.bool false)], args := [d1, d2] }
  | _ => none }
def RegNilWrongFalsely : Prop := regNilRow.holds Try.pinned (OpenSpec.ofChange regNilWrong)

/- THE SECOND FORM. 'bulk': how many values and letters a reading holds, each counted each time it is reached (what is shared counts as often as it is met; a slice's spare places count too). A statement '..UptoSaid' is the law's where the arguments, and the package variables that the reading takes, are together of bulk at most 1048576: NARROWER than '..Said'. Prove '..Said' where nothing that the law and all that it calls make is longer than what came in: it says more and counts as full. Else prove '..UptoSaid'. A law counts once. -/
mutual
def uptoBulk {H : Type} : DataW H → Nat
  | .lit (.string bytes) => bytes.length + 1
  | .lit _ => 1
  | .nil => 1
  | .ptr d => uptoBulk d + 1
  | .slice elems spare => uptoBulkAll elems + uptoBulkAll spare + 1
  | .agg parts => uptoBulkAll parts + 1
  | .iface _ d => uptoBulk d + 1
  | .map entries => uptoBulkEntries entries + 1
  | .held _ => 1
def uptoBulkAll {H : Type} : List (DataW H) → Nat
  | [] => 0
  | d :: r => uptoBulk d + uptoBulkAll r
def uptoBulkEntries {H : Type} : List (Lit × DataW H) → Nat
  | [] => 0
  | x :: r => uptoBulkEntry x + uptoBulkEntries r
def uptoBulkEntry {H : Type} : Lit × DataW H → Nat
  | (.string bytes, d) => bytes.length + uptoBulk d + 1
  | (_, d) => uptoBulk d + 1
 end
def uptoSmall : (H : Type) → List (DataW H) → Bool := fun _ ds => decide (uptoBulkAll ds ≤ 1048576)
def OpenSpec.upto (s : _root_.Go.ChangeSpec) : _root_.Go.OpenSpec := { _root_.Go.OpenSpec.ofChange s with cond := some uptoSmall }

/-- 'minuterielaw02.RegTurns', WHERE WHAT IT READS IS OF BULK AT MOST 1048576: true; the input reads as it did. -/
def regTurnsUptoRow : OpenClaim := { program := "ytpndngiegjekpaa", sum := "361f370ac101b6cbe5435de625cf1ffa0be30a84565e33489cd220ab02621cf2", func := "minuterie/minuterielaw02.RegTurns", spec := "regTurns", plainKeys := false, apart := false, narrowed := true }
def RegTurnsUptoSaid : Prop := regTurnsUptoRow.holds Try.pinned (OpenSpec.upto regTurnsSpec)

/-- 'minuterielaw02.RegPlays', WHERE WHAT IT READS IS OF BULK AT MOST 1048576: true; the input reads as it did. -/
def regPlaysUptoRow : OpenClaim := { program := "ytpndngiegjekpaa", sum := "361f370ac101b6cbe5435de625cf1ffa0be30a84565e33489cd220ab02621cf2", func := "minuterie/minuterielaw02.RegPlays", spec := "regPlays", inPlace := ["maps.clone"], unfollowed := true, recurses := true, plainKeys := false, apart := false, narrowed := true }
def RegPlaysUptoSaid : Prop := regPlaysUptoRow.holds Try.pinned (OpenSpec.upto regPlaysSpec)

/-- 'minuterielaw02.RegStays', WHERE WHAT IT READS IS OF BULK AT MOST 1048576: true; the input reads as it did. -/
def regStaysUptoRow : OpenClaim := { program := "ytpndngiegjekpaa", sum := "361f370ac101b6cbe5435de625cf1ffa0be30a84565e33489cd220ab02621cf2", func := "minuterie/minuterielaw02.RegStays", spec := "regStays", plainKeys := false, apart := false, narrowed := true }
def RegStaysUptoSaid : Prop := regStaysUptoRow.holds Try.pinned (OpenSpec.upto regStaysSpec)

/-- 'minuterielaw02.RegNil', WHERE WHAT IT READS IS OF BULK AT MOST 1048576: true; the input reads as it did. -/
def regNilUptoRow : OpenClaim := { program := "ytpndngiegjekpaa", sum := "361f370ac101b6cbe5435de625cf1ffa0be30a84565e33489cd220ab02621cf2", func := "minuterie/minuterielaw02.RegNil", spec := "regNil", inPlace := ["maps.clone"], unfollowed := true, recurses := true, plainKeys := false, apart := false, narrowed := true }
def RegNilUptoSaid : Prop := regNilUptoRow.holds Try.pinned (OpenSpec.upto regNilSpec)

end Rows
end Go.Proofs.Ytpndngiegjekpaa
