/- Layer 16's laws: PoolPlays, of any room. -/
import Derived.Test.YtggmllobcemhhaaZAag
import Derived.Test.YtggmllobcemhhaaZAah
namespace Go.Proofs.Ytggmllobcemhhaa.B
set_option linter.unusedVariables false
set_option linter.unusedSimpArgs false
set_option maxRecDepth 100000
open Go.ChangeShapes Go.WideShapes Go.RowKit Go.Sort
theorem poPlaysNo {R : PoolR} (C : PoolC R) (a b : Int) (y : Option Addr) (len cap0 : Nat) (w : World) (ha : i64v a) (hno : ¬ (1 ≤ a ∧ a ≤ 4096)) : Calls Try.prog 3 #[.int .i64 a, .slice y len cap0, .int .i64 b] w fun e w' => e = .returned (.bool true) ∧ Below w.heap.size w w' := by
 have HN := Lib.hid (C.newNo a w ha hno)
 have HKn := Lib.hid (fun w' => poKnown C w')
 clear C ha
 by_cases h1 : a < 1
 · have e1 : decide ((40 : Int) < a) = false := decide_eq_false (by omega)
   have e3 : decide (a < 1) = true := decide_eq_true h1
   go_enter Try.func3, Try.ntmps3
   go_wp2_with (first
    | (go_at_call 8; refine HN.out.mono ?_; rintro e w1 ⟨rfl, hb⟩; have HB := Lib.hid hb; clear hb)
    | (go_at_call 9; refine (HKn.out _).mono ?_; rintro e w2 ⟨rfl, hb⟩; have HB := Lib.hid (tr HB.out hb); clear hb))
   go_ret
   exact ⟨rfl, HB.out⟩
 · have h2 : 4096 < a := by omega
   have e1 : decide ((40 : Int) < a) = true := decide_eq_true (by omega)
   have e2 : decide (a ≤ 4096) = false := decide_eq_false (by omega)
   have e3 : decide (a < 1) = false := decide_eq_false h1
   have e4 : decide ((4096 : Int) < a) = true := decide_eq_true h2
   go_enter Try.func3, Try.ntmps3
   go_wp2_with (first
    | (go_at_call 8; refine HN.out.mono ?_; rintro e w1 ⟨rfl, hb⟩; have HB := Lib.hid hb; clear hb)
    | (go_at_call 9; refine (HKn.out _).mono ?_; rintro e w2 ⟨rfl, hb⟩; have HB := Lib.hid (tr HB.out hb); clear hb))
   go_ret
   exact ⟨rfl, HB.out⟩
theorem poPlays {R : PoolR} (C : PoolC R) (a b : Int) (y : Option Addr) (len cap0 : Nat) (zs : Nat → Ac) (w : World) (ha : i64v a) (hb : i64v b) (hc0 : len ≤ cap0) (hy : RowAc w y len cap0 zs) : Calls Try.prog 3 #[.int .i64 a, .slice y len cap0, .int .i64 b] w fun e w' => e = .returned (.bool true) ∧ Below w.heap.size w w' := by
 by_cases h : 1 ≤ a ∧ a ≤ 4096
 · by_cases h2 : a ≤ 40
   · exact poPlaysA C a b y len cap0 zs w h.1 h2 hb hc0 hy
   · exact poPlaysB C a b y len cap0 zs w (by omega) h.2 hb hc0 hy
 · exact poPlaysNo C a b y len cap0 w ha h
end Go.Proofs.Ytggmllobcemhhaa.B
