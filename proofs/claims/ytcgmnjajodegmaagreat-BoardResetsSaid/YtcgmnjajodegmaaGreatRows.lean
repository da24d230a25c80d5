/-
  No cell of these rows narrows 'for every input' (looked for: loops, veiled, ifaces, maps, wideKeys, modest, calm, conditions, laid).
  DERIVED. THE GIVEN ROWS OF THIS SEAT. 5 by the template 'for every input the law returns true; each argument reads behind the call as it read before'; 0 by the template 'total and deterministic' (their statements: YtcgmnjajodegmaaGreatTotals.lean).
  GIVEN WITH THE SEED: the statements are not yours to turn. If you find one false, say at which input.
  Laid BY PROGRAM, IN A SANDBOX (cutbox-rows.mjs): the forced cells as the released guide's own fill.sh prints them over the translation 6111606bf81af347… (all of the seat's roots in one cut). By AI agents, Wed Nov 11 2026. No macro, syntax, notation, axiom, sorry.
-/
import Derived.Test.YtcgmnjajodegmaaGreatChecked
import GoSem.Claim
import GoSem.ClaimJoined
import GoSem.ClaimMapViews
import Derived.JoinedTies
import Derived.KernelRfl
namespace Go.Proofs.YtcgmnjajodegmaaGreat
/- THE CELL 'sum', in the pinned program and in every row, IS THE sha256 OF THE DUMP (.gsa) THAT YtcgmnjajodegmaaGreatProg.lean LOADS. Nothing in Lean hashes anything: it is a label: what it is worth is what the hold of that sum in a sandbox is worth. -/
noncomputable def Tryz.pinned : Pinned := { name := "ytcgmnjajodegmaagreat", sum := "6111606bf81af3475478016ea6ab4642ca074ee75ef9503ebc5fd77f96fec8d8", checked := Tryz.checked }
namespace Rows
def none {H : Type} : Left H := { results := [], args := [] }

/-- 'minuterielaw11.BoardPlays': WHATEVER THE INPUT: true; the input reads as it did. -/
def boardPlaysSpec : ChangeSpec := { name := "boardPlays", fn := fun _ => fun
  | [d1, d2] => { results := [.lit (.bool true)], args := [d1, d2] }
  | _ => none }
def boardPlaysRow : OpenClaim := { program := "ytcgmnjajodegmaagreat", sum := "6111606bf81af3475478016ea6ab4642ca074ee75ef9503ebc5fd77f96fec8d8", func := "minuterie/minuterielaw11.BoardPlays", spec := "boardPlays", inPlace := ["maps.clone"], unfollowed := true, recurses := true, plainKeys := false, apart := false }
def BoardPlaysSaid : Prop := boardPlaysRow.holds Tryz.pinned (OpenSpec.ofChange boardPlaysSpec)

/-- ITS FALSE NEIGHBOUR: 'it returns false'. Refute it at one input. -/
def boardPlaysWrong : ChangeSpec := { name := "boardPlays", fn := fun _ => fun
  | [d1, d2] => { results := [.lit (.bool false)], args := [d1, d2] }
  | _ => none }
def BoardPlaysWrongFalsely : Prop := boardPlaysRow.holds Tryz.pinned (OpenSpec.ofChange boardPlaysWrong)

/-- 'minuterielaw11.BoardTicks': WHATEVER THE INPUT: true; the input reads as it did. -/
def boardTicksSpec : ChangeSpec := { name := "boardTicks", fn := fun _ => fun
  | [d1, d2, d3, d4] => { results := [.lit (.bool true)], args := [d1, d2, d3, d4] }
  | _ => none }
def boardTicksRow : OpenClaim := { program := "ytcgmnjajodegmaagreat", sum := "6111606bf81af3475478016ea6ab4642ca074ee75ef9503ebc5fd77f96fec8d8", func := "minuterie/minuterielaw11.BoardTicks", spec := "boardTicks", inPlace := ["maps.clone"], unfollowed := true, recurses := true, plainKeys := false, apart := false }
def BoardTicksSaid : Prop := boardTicksRow.holds Tryz.pinned (OpenSpec.ofChange boardTicksSpec)

/-- ITS FALSE NEIGHBOUR: 'it returns false'. Refute it at one input. -/
def boardTicksWrong : ChangeSpec := { name := "boardTicks", fn := fun _ => fun
  | [d1, d2, d3, d4] => { results := [.lit (.bool false)], args := [d1, d2, d3, d4] }
  | _ => none }
def BoardTicksWrongFalsely : Prop := boardTicksRow.holds Tryz.pinned (OpenSpec.ofChange boardTicksWrong)

/-- 'minuterielaw11.BoardResets': WHATEVER THE INPUT: true; the input reads as it did. -/
def boardResetsSpec : ChangeSpec := { name := "boardResets", fn := fun _ => fun
  | [d1, d2] => { results := [.lit (.bool true)], args := [d1, d2] }
  | _ => none }
def boardResetsRow : OpenClaim := { program := "ytcgmnjajodegmaagreat", sum := "6111606bf81af3475478016ea6ab4642ca074ee75ef9503ebc5fd77f96fec8d8", func := "minuterie/minuterielaw11.BoardResets", spec := "boardResets", inPlace := ["maps.clone"], unfollowed := true, recurses := true, plainKeys := false, apart := false }
def BoardResetsSaid : Prop := boardResetsRow.holds Tryz.pinned (OpenSpec.ofChange boardResetsSpec)

/-- ITS FALSE NEIGHBOUR: 'it returns false'. Refute it at one input. -/
def boardResetsWrong : ChangeSpec := { name := "boardResets", fn := fun _ => fun
  | [d1, d2] => { results := [.lit (.bool false)], args := [d1, d2] }
  | _ => none }
def BoardResetsWrongFalsely : Prop := boardResetsRow.holds Tryz.pinned (OpenSpec.ofChange boardResetsWrong)

/-- 'minuterielaw11.BoardNil': WHATEVER THE INPUT: true; the input reads as it did. -/
def boardNilSpec : ChangeSpec := { name := "boardNil", fn := fun _ => fun
  | [d1, d2, d3] => { results := [.lit (.bool true)], args := [d1, d2, d3] }
  | _ => none }
def boardNilRow : OpenClaim := { program := "ytcgmnjajodegmaagreat", sum := "6111606bf81af3475478016ea6ab4642ca074ee75ef9503ebc5fd77f96fec8d8", func := "minuterie/minuterielaw11.BoardNil", spec := "boardNil", inPlace := ["maps.clone"], unfollowed := true, recurses := true, plainKeys := false, apart := false }
def BoardNilSaid : Prop := boardNilRow.holds Tryz.pinned (OpenSpec.ofChange boardNilSpec)

/-- ITS FALSE NEIGHBOUR: 'it returns false'. Refute it at one input. -/
def boardNilWrong : ChangeSpec := { name := "boardNil", fn := fun _ => fun
  | [d1, d2, d3] => { results := [.lit (.bool false)], args := [d1, d2, d3] }
  | _ => none }
def BoardNilWrongFalsely : Prop := boardNilRow.holds Tryz.pinned (OpenSpec.ofChange boardNilWrong)

/-- 'minuterielaw11.BoardWires': WHATEVER THE INPUT: true; the input reads as it did. -/
def boardWiresSpec : ChangeSpec := { name := "boardWires", fn := fun _ => fun
  | [d1, d2] => { results := [.lit (.bool true)], args := [d1, d2] }
  | _ => none }
def boardWiresRow : OpenClaim := { program := "ytcgmnjajodegmaagreat", sum := "6111606bf81af3475478016ea6ab4642ca074ee75ef9503ebc5fd77f96fec8d8", func := "minuterie/minuterielaw11.BoardWires", spec := "boardWires", unfollowed := true, recurses := true, plainKeys := false, apart := false }
def BoardWiresSaid : Prop := boardWiresRow.holds Tryz.pinned (OpenSpec.ofChange boardWiresSpec)

/-- ITS FALSE NEIGHBOUR: 'it returns false'. Refute it at one input. -/
def boardWiresWrong : ChangeSpec := { name := "boardWires", fn := fun _ => fun
  | [d1, d2] => { results := [.lit (.bool false)], args := [d1, d2] }
  | _ => none }
def BoardWiresWrongFalsely : Prop := boardWiresRow.holds Tryz.pinned (OpenSpec.ofChange boardWiresWrong)

/- THE SECOND FORM. 'bulk': how many values and letters a reading holds, each counted each time it is reached (what is shared counts as often as it is met; a slice's spare places count too). A statement '..UptoSaid' is the law's where the arguments, and the package variables that the reading takes, are together of bulk at most 1048576: NARROWER than '..Said'. Prove '..Said' where nothing that the law and all that it calls make is longer than what came in: it says more and counts as full. Else prove '..UptoSaid'. A law counts once. -/
mutual
def uptoBulk {H : Type} : DataW H → Nat
  | .lit (.string bytes) => bytes.length + 1
  | .lit _ => 1
  | .nil => 1
  | .ptr d => uptoBulk d + 1
  | .slice elems spare => uptoBulkAll elems + uptoBulkAll spare + 1
  | .agg parts => uptoBulkAll parts + 1
  | .iface _ d => uptoBulk d + 1
  | .map entries => uptoBulkEntries entries + 1
  | .held _ => 1
def uptoBulkAll {H : Type} : List (DataW H) → Nat
  | [] => 0
  | d :: r => uptoBulk d + uptoBulkAll r
def uptoBulkEntries {H : Type} : List (Lit × DataW H) → Nat
  | [] => 0
  | x :: r => uptoBulkEntry x + uptoBulkEntries r
def uptoBulkEntry {H : Type} : Lit × DataW H → Nat
  | (.string bytes, d) => bytes.length + uptoBulk d + 1
  | (_, d) => uptoBulk d + 1
 end
def uptoSmall : (H : Type) → List (DataW H) → Bool := fun _ ds => decide (uptoBulkAll ds ≤ 1048576)
def OpenSpec.upto (s : _root_.Go.ChangeSpec) : _root_.Go.OpenSpec := { _root_.Go.OpenSpec.ofChange s with cond := some uptoSmall }

/-- 'minuterielaw11.BoardPlays', WHERE WHAT IT READS IS OF BULK AT MOST 1048576: true; the input reads as it did. -/
def boardPlaysUptoRow : OpenClaim := { program := "ytcgmnjajodegmaagreat", sum := "6111606bf81af3475478016ea6ab4642ca074ee75ef9503ebc5fd77f96fec8d8", func := "minuterie/minuterielaw11.BoardPlays", spec := "boardPlays", inPlace := ["maps.clone"], unfollowed := true, recurses := true, plainKeys := false, apart := false, narrowed := true }
def BoardPlaysUptoSaid : Prop := boardPlaysUptoRow.holds Tryz.pinned (OpenSpec.upto boardPlaysSpec)

/-- 'minuterielaw11.BoardTicks', WHERE WHAT IT READS IS OF BULK AT MOST 1048576: true; the input reads as it did. -/
def boardTicksUptoRow : OpenClaim := { program := "ytcgmnjajodegmaagreat", sum := "6111606bf81af3475478016ea6ab4642ca074ee75ef9503ebc5fd77f96fec8d8", func := "minuterie/minuterielaw11.BoardTicks", spec := "boardTicks", inPlace := ["maps.clone"], unfollowed := true, recurses := true, plainKeys := false, apart := false, narrowed := true }
def BoardTicksUptoSaid : Prop := boardTicksUptoRow.holds Tryz.pinned (OpenSpec.upto boardTicksSpec)

/-- 'minuterielaw11.BoardResets', WHERE WHAT IT READS IS OF BULK AT MOST 1048576: true; the input reads as it did. -/
def boardResetsUptoRow : OpenClaim := { program := "ytcgmnjajodegmaagreat", sum := "6111606bf81af3475478016ea6ab4642ca074ee75ef9503ebc5fd77f96fec8d8", func := "minuterie/minuterielaw11.BoardResets", spec := "boardResets", inPlace := ["maps.clone"], unfollowed := true, recurses := true, plainKeys := false, apart := false, narrowed := true }
def BoardResetsUptoSaid : Prop := boardResetsUptoRow.holds Tryz.pinned (OpenSpec.upto boardResetsSpec)

/-- 'minuterielaw11.BoardNil', WHERE WHAT IT READS IS OF BULK AT MOST 1048576: true; the input reads as it did. -/
def boardNilUptoRow : OpenClaim := { program := "ytcgmnjajodegmaagreat", sum := "6111606bf81af3475478016ea6ab4642ca074ee75ef9503ebc5fd77f96fec8d8", func := "minuterie/minuterielaw11.BoardNil", spec := "boardNil", inPlace := ["maps.clone"], unfollowed := true, recurses := true, plainKeys := false, apart := false, narrowed := true }
def BoardNilUptoSaid : Prop := boardNilUptoRow.holds Tryz.pinned (OpenSpec.upto boardNilSpec)

/-- 'minuterielaw11.BoardWires', WHERE WHAT IT READS IS OF BULK AT MOST 1048576: true; the input reads as it did. -/
def boardWiresUptoRow : OpenClaim := { program := "ytcgmnjajodegmaagreat", sum := "6111606bf81af3475478016ea6ab4642ca074ee75ef9503ebc5fd77f96fec8d8", func := "minuterie/minuterielaw11.BoardWires", spec := "boardWires", unfollowed := true, recurses := true, plainKeys := false, apart := false, narrowed := true }
def BoardWiresUptoSaid : Prop := boardWiresUptoRow.holds Tryz.pinned (OpenSpec.upto boardWiresSpec)

end Rows
end Go.Proofs.YtcgmnjajodegmaaGreat
