/-
  No cell of these rows narrows 'for every input' (looked for: loops, veiled, ifaces, maps, wideKeys, modest, calm, conditions, laid).
  DERIVED. THE GIVEN ROWS OF THIS SEAT. 4 by the template 'for every input the law returns true; each argument reads behind the call as it read before'; 0 by the template 'total and deterministic' (their statements: YtpiihfhjafnkmaaTotals.lean).
  GIVEN WITH THE SEED: the statements are not yours to turn. If you find one false, say at which input.
  Laid BY PROGRAM, IN A SANDBOX (cutbox-rows.mjs): the forced cells as the released guide's own fill.sh prints them over the translation 00be6bc864684d83… (all of the seat's roots in one cut). By AI agents, Wed Nov 11 2026. No macro, syntax, notation, axiom, sorry.
-/
import Derived.Test.YtpiihfhjafnkmaaChecked
import GoSem.Claim
import GoSem.ClaimJoined
import GoSem.ClaimMapViews
import Derived.JoinedTies
import Derived.KernelRfl
namespace Go.Proofs.Ytpiihfhjafnkmaa
/- THE CELL 'sum', in the pinned program and in every row, IS THE sha256 OF THE DUMP (.gsa) THAT YtpiihfhjafnkmaaProg.lean LOADS. Nothing in Lean hashes anything: it is a label: what it is worth is what the hold of that sum in a sandbox is worth. -/
noncomputable def Try.pinned : Pinned := { name := "ytpiihfhjafnkmaa", sum := "00be6bc864684d83aa11754df35e8150a7384524658a2471af1981a28775d794", checked := Try.checked }
namespace Rows
def none {H : Type} : Left H := { results := [], args := [] }

/-- 'minuterielaw01.BitsHalves': WHATEVER THE INPUT: true; the input reads as it did. -/
def bitsHalvesSpec : ChangeSpec := { name := "bitsHalves", fn := fun _ => fun
  | [d1, d2, d3] => { results := [.lit (.bool true)], args := [d1, d2, d3] }
  | _ => none }
def bitsHalvesRow : OpenClaim := { program := "ytpiihfhjafnkmaa", sum := "00be6bc864684d83aa11754df35e8150a7384524658a2471af1981a28775d794", func := "minuterie/minuterielaw01.BitsHalves", spec := "bitsHalves", unfollowed := true, recurses := true, apart := false }
def BitsHalvesSaid : Prop := bitsHalvesRow.holds Try.pinned (OpenSpec.ofChange bitsHalvesSpec)

/-- ITS FALSE NEIGHBOUR: 'it returns false'. Refute it at one input. -/
def bitsHalvesWrong : ChangeSpec := { name := "bitsHalves", fn := fun _ => fun
  | [d1, d2, d3] => { results := [.lit (.bool false)], args := [d1, d2, d3] }
  | _ => none }
def BitsHalvesWrongFalsely : Prop := bitsHalvesRow.holds Try.pinned (OpenSpec.ofChange bitsHalvesWrong)

/-- 'minuterielaw01.BitsDigits': WHATEVER THE INPUT: true; the input reads as it did. -/
def bitsDigitsSpec : ChangeSpec := { name := "bitsDigits", fn := fun _ => fun
  | [d1, d2, d3, d4] => { results := [.lit (.bool true)], args := [d1, d2, d3, d4] }
  | _ => none }
def bitsDigitsRow : OpenClaim := { program := "ytpiihfhjafnkmaa", sum := "00be6bc864684d83aa11754df35e8150a7384524658a2471af1981a28775d794", func := "minuterie/minuterielaw01.BitsDigits", spec := "bitsDigits", unfollowed := true, recurses := true, apart := false }
def BitsDigitsSaid : Prop := bitsDigitsRow.holds Try.pinned (OpenSpec.ofChange bitsDigitsSpec)

/-- ITS FALSE NEIGHBOUR: 'it returns false'. Refute it at one input. -/
def bitsDigitsWrong : ChangeSpec := { name := "bitsDigits", fn := fun _ => fun
  | [d1, d2, d3, d4] => { results := [.lit (.bool false)], args := [d1, d2, d3, d4] }
  | _ => none }
def BitsDigitsWrongFalsely : Prop := bitsDigitsRow.holds Try.pinned (OpenSpec.ofChange bitsDigitsWrong)

/-- 'minuterielaw01.BitsFields': WHATEVER THE INPUT: true; the input reads as it did. -/
def bitsFieldsSpec : ChangeSpec := { name := "bitsFields", fn := fun _ => fun
  | [d1, d2, d3, d4, d5, d6] => { results := [.lit (.bool true)], args := [d1, d2, d3, d4, d5, d6] }
  | _ => none }
def bitsFieldsRow : OpenClaim := { program := "ytpiihfhjafnkmaa", sum := "00be6bc864684d83aa11754df35e8150a7384524658a2471af1981a28775d794", func := "minuterie/minuterielaw01.BitsFields", spec := "bitsFields", unfollowed := true, recurses := true, apart := false }
def BitsFieldsSaid : Prop := bitsFieldsRow.holds Try.pinned (OpenSpec.ofChange bitsFieldsSpec)

/-- ITS FALSE NEIGHBOUR: 'it returns false'. Refute it at one input. -/
def bitsFieldsWrong : ChangeSpec := { name := "bitsFields", fn := fun _ => fun
  | [d1, d2, d3, d4, d5, d6] => { results := [.lit (.bool false)], args := [d1, d2, d3, d4, d5, d6] }
  | _ => none }
def BitsFieldsWrongFalsely : Prop := bitsFieldsRow.holds Try.pinned (OpenSpec.ofChange bitsFieldsWrong)

/-- 'minuterielaw01.BitsTop': WHATEVER THE INPUT: true; the input reads as it did. -/
def bitsTopSpec : ChangeSpec := { name := "bitsTop", fn := fun _ => fun
  | [d1, d2] => { results := [.lit (.bool true)], args := [d1, d2] }
  | _ => none }
def bitsTopRow : OpenClaim := { program := "ytpiihfhjafnkmaa", sum := "00be6bc864684d83aa11754df35e8150a7384524658a2471af1981a28775d794", func := "minuterie/minuterielaw01.BitsTop", spec := "bitsTop", unfollowed := true, recurses := true, apart := false }
def BitsTopSaid : Prop := bitsTopRow.holds Try.pinned (OpenSpec.ofChange bitsTopSpec)

/-- ITS FALSE NEIGHBOUR: 'it returns false'. Refute it at one input. -/
def bitsTopWrong : ChangeSpec := { name := "bitsTop", fn := fun _ => fun
  | [d1, d2] => { results := [.lit (.bool false)], args := [d1, d2] }
  | _ => none }
def BitsTopWrongFalsely : Prop := bitsTopRow.holds Try.pinned (OpenSpec.ofChange bitsTopWrong)

/- THE SECOND FORM. 'bulk': how many values and letters a reading holds, each counted each time it is reached (what is shared counts as often as it is met; a slice's spare places count too). A statement '..UptoSaid' is the law's where the arguments, and the package variables that the reading takes, are together of bulk at most 1048576: NARROWER than '..Said'. Prove '..Said' where nothing that the law and all that it calls make is longer than what came in: it says more and counts as full. Else prove '..UptoSaid'. A law counts once. -/
mutual
def uptoBulk {H : Type} : DataW H → Nat
  | .lit (.string bytes) => bytes.length + 1
  | .lit _ => 1
  | .nil => 1
  | .ptr d => uptoBulk d + 1
  | .slice elems spare => uptoBulkAll elems + uptoBulkAll spare + 1
  | .agg parts => uptoBulkAll parts + 1
  | .iface _ d => uptoBulk d + 1
  | .map entries => uptoBulkEntries entries + 1
  | .held _ => 1
def uptoBulkAll {H : Type} : List (DataW H) → Nat
  | [] => 0
  | d :: r => uptoBulk d + uptoBulkAll r
def uptoBulkEntries {H : Type} : List (Lit × DataW H) → Nat
  | [] => 0
  | x :: r => uptoBulkEntry x + uptoBulkEntries r
def uptoBulkEntry {H : Type} : Lit × DataW H → Nat
  | (.string bytes, d) => bytes.length + uptoBulk d + 1
  | (_, d) => uptoBulk d + 1
 end
def uptoSmall : (H : Type) → List (DataW H) → Bool := fun _ ds => decide (uptoBulkAll ds ≤ 1048576)
def OpenSpec.upto (s : _root_.Go.ChangeSpec) : _root_.Go.OpenSpec := { _root_.Go.OpenSpec.ofChange s with cond := some uptoSmall }

/-- 'minuterielaw01.BitsHalves', WHERE WHAT IT READS IS OF BULK AT MOST 1048576: true; the input reads as it did. -/
def bitsHalvesUptoRow : OpenClaim := { program := "ytpiihfhjafnkmaa", sum := "00be6bc864684d83aa11754df35e8150a7384524658a2471af1981a28775d794", func := "minuterie/minuterielaw01.BitsHalves", spec := "bitsHalves", unfollowed := true, recurses := true, apart := false, narrowed := true }
def BitsHalvesUptoSaid : Prop := bitsHalvesUptoRow.holds Try.pinned (OpenSpec.upto bitsHalvesSpec)

/-- 'minuterielaw01.BitsDigits', WHERE WHAT IT READS IS OF BULK AT MOST 1048576: true; the input reads as it did. -/
def bitsDigitsUptoRow : OpenClaim := { program := "ytpiihfhjafnkmaa", sum := "00be6bc864684d83aa11754df35e8150a7384524658a2471af1981a28775d794", func := "minuterie/minuterielaw01.BitsDigits", spec := "bitsDigits", unfollowed := true, recurses := true, apart := false, narrowed := true }
def BitsDigitsUptoSaid : Prop := bitsDigitsUptoRow.holds Try.pinned (OpenSpec.upto bitsDigitsSpec)

/-- 'minuterielaw01.BitsFields', WHERE WHAT IT READS IS OF BULK AT MOST 1048576: true; the input reads as it did. -/
def bitsFieldsUptoRow : OpenClaim := { program := "ytpiihfhjafnkmaa", sum := "00be6bc864684d83aa11754df35e8150a7384524658a2471af1981a28775d794", func := "minuterie/minuterielaw01.BitsFields", spec := "bitsFields", unfollowed := true, recurses := true, apart := false, narrowed := true }
def BitsFieldsUptoSaid : Prop := bitsFieldsUptoRow.holds Try.pinned (OpenSpec.upto bitsFieldsSpec)

/-- 'minuterielaw01.BitsTop', WHERE WHAT IT READS IS OF BULK AT MOST 1048576: true; the input reads as it did. -/
def bitsTopUptoRow : OpenClaim := { program := "ytpiihfhjafnkmaa", sum := "00be6bc864684d83aa11754df35e8150a7384524658a2471af1981a28775d794", func := "minuterie/minuterielaw01.BitsTop", spec := "bitsTop", unfollowed := true, recurses := true, apart := false, narrowed := true }
def BitsTopUptoSaid : Prop := bitsTopUptoRow.holds Try.pinned (OpenSpec.upto bitsTopSpec)

end Rows
end Go.Proofs.Ytpiihfhjafnkmaa
