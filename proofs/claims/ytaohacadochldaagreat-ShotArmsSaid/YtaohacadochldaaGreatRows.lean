/-
  No cell of these rows narrows 'for every input' (looked for: loops, veiled, ifaces, maps, wideKeys, modest, calm, conditions, laid).
  DERIVED. THE GIVEN ROWS OF THIS SEAT. 4 by the template 'for every input the law returns true; each argument reads behind the call as it read before'; 0 by the template 'total and deterministic' (their statements: YtaohacadochldaaGreatTotals.lean).
  GIVEN WITH THE SEED: the statements are not yours to turn. If you find one false, say at which input.
  Laid BY PROGRAM, IN A SANDBOX (cutbox-rows.mjs): the forced cells as the released guide's own fill.sh prints them over the translation b00d8e2ba8843401… (all of the seat's roots in one cut). By AI agents, Wed Nov 11 2026. No macro, syntax, notation, axiom, sorry.
-/
import Derived.Test.YtaohacadochldaaGreatChecked
import GoSem.Claim
import GoSem.ClaimJoined
import GoSem.ClaimMapViews
import Derived.JoinedTies
import Derived.KernelRfl
namespace Go.Proofs.YtaohacadochldaaGreat
/- THE CELL 'sum', in the pinned program and in every row, IS THE sha256 OF THE DUMP (.gsa) THAT YtaohacadochldaaGreatProg.lean LOADS. Nothing in Lean hashes anything: it is a label: what it is worth is what the hold of that sum in a sandbox is worth. -/
noncomputable def Tryz.pinned : Pinned := { name := "ytaohacadochldaagreat", sum := "b00d8e2ba8843401d306e1435be28a54ef7892a58cde5b1f6c33d13ec7aa0bb4", checked := Tryz.checked }
namespace Rows
def none {H : Type} : Left H := { results := [], args := [] }

/-- 'minuterielaw14.ShotPlays': WHATEVER THE INPUT: true; the input reads as it did. -/
def shotPlaysSpec : ChangeSpec := { name := "shotPlays", fn := fun _ => fun
  | [d1, d2, d3, d4] => { results := [.lit (.bool true)], args := [d1, d2, d3, d4] }
  | _ => none }
def shotPlaysRow : OpenClaim := { program := "ytaohacadochldaagreat", sum := "b00d8e2ba8843401d306e1435be28a54ef7892a58cde5b1f6c33d13ec7aa0bb4", func := "minuterie/minuterielaw14.ShotPlays", spec := "shotPlays", inPlace := ["maps.clone"], unfollowed := true, recurses := true, plainKeys := false, apart := false }
def ShotPlaysSaid : Prop := shotPlaysRow.holds Tryz.pinned (OpenSpec.ofChange shotPlaysSpec)

/-- ITS FALSE NEIGHBOUR: 'it returns false'. Refute it at one input. -/
def shotPlaysWrong : ChangeSpec := { name := "shotPlays", fn := fun _ => fun
  | [d1, d2, d3, d4] => { results := [.lit (.bool false)], args := [d1, d2, d3, d4] }
  | _ => none }
def ShotPlaysWrongFalsely : Prop := shotPlaysRow.holds Tryz.pinned (OpenSpec.ofChange shotPlaysWrong)

/-- 'minuterielaw14.ShotArms': WHATEVER THE INPUT: true; the input reads as it did. -/
def shotArmsSpec : ChangeSpec := { name := "shotArms", fn := fun _ => fun
  | [d1, d2, d3, d4] => { results := [.lit (.bool true)], args := [d1, d2, d3, d4] }
  | _ => none }
def shotArmsRow : OpenClaim := { program := "ytaohacadochldaagreat", sum := "b00d8e2ba8843401d306e1435be28a54ef7892a58cde5b1f6c33d13ec7aa0bb4", func := "minuterie/minuterielaw14.ShotArms", spec := "shotArms", unfollowed := true, recurses := true, plainKeys := false, apart := false }
def ShotArmsSaid : Prop := shotArmsRow.holds Tryz.pinned (OpenSpec.ofChange shotArmsSpec)

/-- ITS FALSE NEIGHBOUR: 'it returns false'. Refute it at one input. -/
def shotArmsWrong : ChangeSpec := { name := "shotArms", fn := fun _ => fun
  | [d1, d2, d3, d4] => { results := [.lit (.bool false)], args := [d1, d2, d3, d4] }
  | _ => none }
def ShotArmsWrongFalsely : Prop := shotArmsRow.holds Tryz.pinned (OpenSpec.ofChange shotArmsWrong)

/-- 'minuterielaw14.ShotWords': WHATEVER THE INPUT: true; the input reads as it did. -/
def shotWordsSpec : ChangeSpec := { name := "shotWords", fn := fun _ => fun
  | [d1, d2] => { results := [.lit (.bool true)], args := [d1, d2] }
  | _ => none }
def shotWordsRow : OpenClaim := { program := "ytaohacadochldaagreat", sum := "b00d8e2ba8843401d306e1435be28a54ef7892a58cde5b1f6c33d13ec7aa0bb4", func := "minuterie/minuterielaw14.ShotWords", spec := "shotWords", unfollowed := true, recurses := true, plainKeys := false, apart := false }
def ShotWordsSaid : Prop := shotWordsRow.holds Tryz.pinned (OpenSpec.ofChange shotWordsSpec)

/-- ITS FALSE NEIGHBOUR: 'it returns false'. Refute it at one input. -/
def shotWordsWrong : ChangeSpec := { name := "shotWords", fn := fun _ => fun
  | [d1, d2] => { results := [.lit (.bool false)], args := [d1, d2] }
  | _ => none }
def ShotWordsWrongFalsely : Prop := shotWordsRow.holds Tryz.pinned (OpenSpec.ofChange shotWordsWrong)

/-- 'minuterielaw14.ShotNil': WHATEVER THE INPUT: true; the input reads as it did. -/
def shotNilSpec : ChangeSpec := { name := "shotNil", fn := fun _ => fun
  | [d] => { results := [.lit (.bool true)], args := [d] }
  | _ => none }
def shotNilRow : OpenClaim := { program := "ytaohacadochldaagreat", sum := "b00d8e2ba8843401d306e1435be28a54ef7892a58cde5b1f6c33d13ec7aa0bb4", func := "minuterie/minuterielaw14.ShotNil", spec := "shotNil", unfollowed := true, recurses := true, plainKeys := false, apart := false }
def ShotNilSaid : Prop := shotNilRow.holds Tryz.pinned (OpenSpec.ofChange shotNilSpec)

/-- ITS FALSE NEIGHBOUR: 'it returns false'. Refute it at one input. -/
def shotNilWrong : ChangeSpec := { name := "shotNil", fn := fun _ => fun
  | [d] => { results := [.lit (.bool false)], args := [d] }
  | _ => none }
def ShotNilWrongFalsely : Prop := shotNilRow.holds Tryz.pinned (OpenSpec.ofChange shotNilWrong)

/- THE SECOND FORM. 'bulk': how many values and letters a reading holds, each counted each time it is reached (what is shared counts as often as it is met; a slice's spare places count too). A statement '..UptoSaid' is the law's where the arguments, and the package variables that the reading takes, are together of bulk at most 1048576: NARROWER than '..Said'. Prove '..Said' where nothing that the law and all that it calls make is longer than what came in: it says more and counts as full. Else prove '..UptoSaid'. A law counts once. -/
mutual
def uptoBulk {H : Type} : DataW H → Nat
  | .lit (.string bytes) => bytes.length + 1
  | .lit _ => 1
  | .nil => 1
  | .ptr d => uptoBulk d + 1
  | .slice elems spare => uptoBulkAll elems + uptoBulkAll spare + 1
  | .agg parts => uptoBulkAll parts + 1
  | .iface _ d => uptoBulk d + 1
  | .map entries => uptoBulkEntries entries + 1
  | .held _ => 1
def uptoBulkAll {H : Type} : List (DataW H) → Nat
  | [] => 0
  | d :: r => uptoBulk d + uptoBulkAll r
def uptoBulkEntries {H : Type} : List (Lit × DataW H) → Nat
  | [] => 0
  | x :: r => uptoBulkEntry x + uptoBulkEntries r
def uptoBulkEntry {H : Type} : Lit × DataW H → Nat
  | (.string bytes, d) => bytes.length + uptoBulk d + 1
  | (_, d) => uptoBulk d + 1
 end
def uptoSmall : (H : Type) → List (DataW H) → Bool := fun _ ds => decide (uptoBulkAll ds ≤ 1048576)
def OpenSpec.upto (s : _root_.Go.ChangeSpec) : _root_.Go.OpenSpec := { _root_.Go.OpenSpec.ofChange s with cond := some uptoSmall }

/-- 'minuterielaw14.ShotPlays', WHERE WHAT IT READS IS OF BULK AT MOST 1048576: true; the input reads as it did. -/
def shotPlaysUptoRow : OpenClaim := { program := "ytaohacadochldaagreat", sum := "b00d8e2ba8843401d306e1435be28a54ef7892a58cde5b1f6c33d13ec7aa0bb4", func := "minuterie/minuterielaw14.ShotPlays", spec := "shotPlays", inPlace := ["maps.clone"], unfollowed := true, recurses := true, plainKeys := false, apart := false, narrowed := true }
def ShotPlaysUptoSaid : Prop := shotPlaysUptoRow.holds Tryz.pinned (OpenSpec.upto shotPlaysSpec)

/-- 'minuterielaw14.ShotArms', WHERE WHAT IT READS IS OF BULK AT MOST 1048576: true; the input reads as it did. -/
def shotArmsUptoRow : OpenClaim := { program := "ytaohacadochldaagreat", sum := "b00d8e2ba8843401d306e1435be28a54ef7892a58cde5b1f6c33d13ec7aa0bb4", func := "minuterie/minuterielaw14.ShotArms", spec := "shotArms", unfollowed := true, recurses := true, plainKeys := false, apart := false, narrowed := true }
def ShotArmsUptoSaid : Prop := shotArmsUptoRow.holds Tryz.pinned (OpenSpec.upto shotArmsSpec)

/-- 'minuterielaw14.ShotWords', WHERE WHAT IT READS IS OF BULK AT MOST 1048576: true; the input reads as it did. -/
def shotWordsUptoRow : OpenClaim := { program := "ytaohacadochldaagreat", sum := "b00d8e2ba8843401d306e1435be28a54ef7892a58cde5b1f6c33d13ec7aa0bb4", func := "minuterie/minuterielaw14.ShotWords", spec := "shotWords", unfollowed := true, recurses := true, plainKeys := false, apart := false, narrowed := true }
def ShotWordsUptoSaid : Prop := shotWordsUptoRow.holds Tryz.pinned (OpenSpec.upto shotWordsSpec)

/-- 'minuterielaw14.ShotNil', WHERE WHAT IT READS IS OF BULK AT MOST 1048576: true; the input reads as it did. -/
def shotNilUptoRow : OpenClaim := { program := "ytaohacadochldaagreat", sum := "b00d8e2ba8843401d306e1435be28a54ef7892a58cde5b1f6c33d13ec7aa0bb4", func := "minuterie/minuterielaw14.ShotNil", spec := "shotNil", unfollowed := true, recurses := true, plainKeys := false, apart := false, narrowed := true }
def ShotNilUptoSaid : Prop := shotNilUptoRow.holds Tryz.pinned (OpenSpec.upto shotNilSpec)

end Rows
end Go.Proofs.YtaohacadochldaaGreat
