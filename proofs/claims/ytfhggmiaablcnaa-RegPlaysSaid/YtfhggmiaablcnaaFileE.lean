/- A file's Turn whole; the errors of Store and Turn. -/
import Derived.Test.YtfhggmiaablcnaaFileT
import Derived.Test.YtfhggmiaablcnaaFileL
namespace Go.Proofs.Ytfhggmiaablcnaa.B
set_option linter.unusedVariables false
set_option linter.unusedSimpArgs false
open Go.ChangeShapes Go.WideShapes Go.RowKit Go.Sort
theorem fChangeBad (off : Int) (fv : Value) (fb : Nat) (w : World) (h0 : 0 ≤ off) (h : (off % 4 != 0) = true) :
    Calls Try.prog 37 #[.pointer (some ⟨fb, 0, none⟩), .int .u32 off, fv] w fun e w' => e = .returned (.int .i64 11) ∧ Below w.heap.size w w' := by
  go_enter Try.func37, Try.ntmps37
  go_wp2_with fail
  refine (fFindBad _ _ _ h0 h).mono ?_
  rintro e w1 ⟨rfl, hb⟩
  go_wp2_with fail
  go_ret
  exact ⟨rfl, trA hb _⟩
theorem fChangeNone (off : Int) (fv : Value) (f m : Nat) (M : List (Int × Rg)) (w : World) (h0 : 0 ≤ off) (h1 : off < 4294967296) (h : (off % 4 != 0) = false) (hF : FileAt w f m M) (hno : ∀ p ∈ M, p.1 ≠ off) :
    Calls Try.prog 37 #[.pointer (some ⟨f, 0, none⟩), .int .u32 off, fv] w fun e w' => e = .returned (.int .i64 10) ∧ Below w.heap.size w w' := by
  have HF := Lib.hid hF
  have HN := Lib.hid hno
  clear hF hno
  go_enter Try.func37, Try.ntmps37
  go_wp2_with fail
  refine (fFindNone off f m M _ h0 h1 h HF.out HN.out).mono ?_
  rintro e w1 ⟨rfl, hb⟩
  go_wp2_with fail
  go_ret
  exact ⟨rfl, trA hb _⟩
theorem fTurn (off : Int) (x : Rg) (u d : Int) (f m : Nat) (M : List (Int × Rg)) (w : World) (u0 : 0 ≤ u) (u1 : u < 4294967296) (d0 : 0 ≤ d) (d1 : d < 4294967296) (h0 : 0 ≤ off) (h1 : off < 4294967296) (h : (off % 4 != 0) = false) (hF : FileAt w f m M) (hin : (off, x) ∈ M) :
    Calls Try.prog 13 #[.pointer (some ⟨f, 0, none⟩), .int .u32 off, .int .u32 u, .int .u32 d] w
      fun e w' => e = .returned (.int .i64 0) ∧ FileAt w' f m (putF off (x.turn u d) M) ∧ Off (· = m) w w' := by
  have hmf : ∀ (fn : Fn) (first cap : Array Value) (w : World), (Instr.makeFunc fn first cap).run Try.prog w = .ok (.func fn first cap) w := fun _ _ _ _ => rfl
  have hlm := hF.ltm
  have hb := trA (trA (tr0 w) (.cells #[.int .u32 u] 26 (0, 0))) (.cells #[.int .u32 d] 26 (0, 0))
  have hv := blk_cell (b2_0 w (.cells #[.int .u32 u] 26 (0, 0)) (.cells #[.int .u32 d] 26 (0, 0))) 0
  have hve := blk_cell (b2_1 w (.cells #[.int .u32 u] 26 (0, 0)) (.cells #[.int .u32 d] 26 (0, 0))) 0
  simp only [List.getElem?_toArray, List.getElem?_cons_zero] at hv hve
  have C := Lib.hid (fChangeT off x u d w.heap.size (w.heap.size + 1) f m M _ u0 u1 d0 d1 h0 h1 h (hF.below hb) hin hv (by simp; omega) hve (by simp))
  have HB := Lib.hid hb
  clear hF hb hv hve
  go_enter Try.func13, Try.ntmps13
  go_wp2_with fail
  refine C.out.mono ?_
  rintro e w3 ⟨rfl, hF3, ho3⟩
  go_wp2_with fail
  go_ret
  exact ⟨rfl, hF3, (Off.ofBelow HB.out).trans ho3⟩
theorem fTurnBad (off u d : Int) (fb : Nat) (w : World) (h0 : 0 ≤ off) (h : (off % 4 != 0) = true) :
    Calls Try.prog 13 #[.pointer (some ⟨fb, 0, none⟩), .int .u32 off, .int .u32 u, .int .u32 d] w fun e w' => e = .returned (.int .i64 11) ∧ Below w.heap.size w w' := by
  have hmf : ∀ (fn : Fn) (first cap : Array Value) (w : World), (Instr.makeFunc fn first cap).run Try.prog w = .ok (.func fn first cap) w := fun _ _ _ _ => rfl
  go_enter Try.func13, Try.ntmps13
  go_wp2_with fail
  refine (fChangeBad _ _ _ _ h0 h).mono ?_
  rintro e w1 ⟨rfl, hb⟩
  go_wp2_with fail
  go_ret
  exact ⟨rfl, tr (trA (trA (tr0 w) _) _) hb⟩
theorem fTurnNone (off u d : Int) (f m : Nat) (M : List (Int × Rg)) (w : World) (h0 : 0 ≤ off) (h1 : off < 4294967296) (h : (off % 4 != 0) = false) (hF : FileAt w f m M) (hno : ∀ p ∈ M, p.1 ≠ off) :
    Calls Try.prog 13 #[.pointer (some ⟨f, 0, none⟩), .int .u32 off, .int .u32 u, .int .u32 d] w fun e w' => e = .returned (.int .i64 10) ∧ Below w.heap.size w w' := by
  have hmf : ∀ (fn : Fn) (first cap : Array Value) (w : World), (Instr.makeFunc fn first cap).run Try.prog w = .ok (.func fn first cap) w := fun _ _ _ _ => rfl
  have HF := Lib.hid (hF.below (trA (trA (tr0 w) (.cells #[.int .u32 u] 26 (0, 0))) (.cells #[.int .u32 d] 26 (0, 0))))
  have HN := Lib.hid hno
  clear hF hno
  go_enter Try.func13, Try.ntmps13
  go_wp2_with fail
  refine (fChangeNone off _ f m M _ h0 h1 h HF.out HN.out).mono ?_
  rintro e w1 ⟨rfl, hb⟩
  go_wp2_with fail
  go_ret
  exact ⟨rfl, tr (trA (trA (tr0 w) _) _) hb⟩
theorem fStoreBad (off v : Int) (fb : Nat) (w : World) (h0 : 0 ≤ off) (h : (off % 4 != 0) = true) :
    Calls Try.prog 11 #[.pointer (some ⟨fb, 0, none⟩), .int .u32 off, .int .u32 v] w fun e w' => e = .returned (.int .i64 11) ∧ Below w.heap.size w w' := by
  have hmf : ∀ (fn : Fn) (first cap : Array Value) (w : World), (Instr.makeFunc fn first cap).run Try.prog w = .ok (.func fn first cap) w := fun _ _ _ _ => rfl
  go_enter Try.func11, Try.ntmps11
  go_wp2_with fail
  refine (fFindBad _ _ _ h0 h).mono ?_
  rintro e w1 ⟨rfl, hb⟩
  go_wp2_with fail
  refine (fChangeBad _ _ _ _ h0 h).mono ?_
  rintro e w2 ⟨rfl, hb2⟩
  go_wp2_with fail
  go_ret
  exact ⟨rfl, tr (trA (tr (trA (tr0 w) _) hb) _) hb2⟩
theorem fStoreNone (off v : Int) (f m : Nat) (M : List (Int × Rg)) (w : World) (h0 : 0 ≤ off) (h1 : off < 4294967296) (h : (off % 4 != 0) = false) (hF : FileAt w f m M) (hno : ∀ p ∈ M, p.1 ≠ off) :
    Calls Try.prog 11 #[.pointer (some ⟨f, 0, none⟩), .int .u32 off, .int .u32 v] w fun e w' => e = .returned (.int .i64 10) ∧ Below w.heap.size w w' := by
  have hmf : ∀ (fn : Fn) (first cap : Array Value) (w : World), (Instr.makeFunc fn first cap).run Try.prog w = .ok (.func fn first cap) w := fun _ _ _ _ => rfl
  have HF := Lib.hid hF
  have HN := Lib.hid hno
  clear hF hno
  go_enter Try.func11, Try.ntmps11
  go_wp2_with fail
  refine (fFindNone off f m M _ h0 h1 h (HF.out.below (trA (tr0 w) _)) HN.out).mono ?_
  rintro e w1 ⟨rfl, hb⟩
  have hb1 := tr (trA (tr0 w) _) hb
  clear hb
  go_wp2_with fail
  refine (fChangeNone off _ f m M _ h0 h1 h (HF.out.below (trA hb1 _)) HN.out).mono ?_
  rintro e w2 ⟨rfl, hb2⟩
  go_wp2_with fail
  go_ret
  exact ⟨rfl, tr (trA hb1 _) hb2⟩
theorem fStoreOnly (off : Int) (x : Rg) (v : Int) (f m : Nat) (M : List (Int × Rg)) (w : World) (h0 : 0 ≤ off) (h : (off % 4 != 0) = false) (hF : FileAt w f m M) (hin : (off, x) ∈ M) (ho : only x.r x.c = true) :
    Calls Try.prog 11 #[.pointer (some ⟨f, 0, none⟩), .int .u32 off, .int .u32 v] w fun e w' => e = .returned (.int .i64 12) ∧ Below w.heap.size w w' := by
  have hF2 := hF.below (trA (tr0 w) (.cells #[.int .u32 v] 26 (0, 0)))
  have C := Lib.hid (fFind off x f m M _ h0 h hF2 hin)
  clear hF hF2 hin
  obtain ⟨a, s, r, c⟩ := x
  unfold Rg.val at C
  simp only at ho
  go_enter Try.func11, Try.ntmps11
  go_wp2_with fail
  refine C.out.mono ?_
  rintro e w1 ⟨rfl, hb⟩
  go_wp2_with fail
  refine (Only a s r c _).mono ?_
  rintro e w2 ⟨rfl, hb2⟩
  rw [ho]
  go_wp2_with fail
  go_ret
  exact ⟨rfl, tr (trA (tr (trA (tr0 w) _) hb) _) hb2⟩
end Go.Proofs.Ytfhggmiaablcnaa.B
