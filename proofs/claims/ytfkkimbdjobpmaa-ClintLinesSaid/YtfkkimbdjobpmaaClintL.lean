/- Package clint: Line, Soft. -/
import Derived.Test.YtfkkimbdjobpmaaClintA
namespace Go.Proofs.Ytfkkimbdjobpmaa.B
set_option linter.unusedVariables false
set_option linter.unusedSimpArgs false
open Go.ChangeShapes Go.WideShapes Go.RowKit Go.Sort Go.MapKept
/-- Is a hart's line high? Its soft line? -/
def cLn (t : Int) (n : Nat) (D : Nat → Int) (h : Int) : Bool := isHart n h && decide (D h.toNat ≤ t)
def cSf (n : Nat) (S : Nat → Int) (h : Int) : Bool := isHart n h && (S h.toNat == 1)
theorem cLine1 (t : Int) (n k : Nat) (D S : Nat → Int) (p m a b : Nat) (w : World) (hc : CAt w p m t n D S) (hk : k < 8) (ha : w.cell? ⟨a, 0, none⟩ = some (.pointer (some ⟨p, 0, none⟩))) (hb : w.cell? ⟨b, 0, none⟩ = some (.int .i64 k)) :
    Calls Try.prog 39 #[.pointer (some ⟨a, 0, none⟩), .pointer (some ⟨b, 0, none⟩)] w fun e w' => e = .returned (.bool (decide (D k ≤ t))) ∧ ∃ j, w' = w.drewN j := by
  have c0 := hc.c0
  have c1 := hc.cD k hk
  have hl := hc.ltp
  clear hc
  go_enter Try.func39, Try.ntmps39
  go_wp2_with fail
  go_quiet (fail)
  go_wp2_with fail
  go_ret
  exact ⟨rfl, nq, rfl⟩
theorem cSoft1 (t : Int) (n k : Nat) (D S : Nat → Int) (p m a b : Nat) (w : World) (hc : CAt w p m t n D S) (hk : k < 8) (ha : w.cell? ⟨a, 0, none⟩ = some (.pointer (some ⟨p, 0, none⟩))) (hb : w.cell? ⟨b, 0, none⟩ = some (.int .i64 k)) :
    Calls Try.prog 41 #[.pointer (some ⟨a, 0, none⟩), .pointer (some ⟨b, 0, none⟩)] w fun e w' => e = .returned (.bool (S k == 1)) ∧ ∃ j, w' = w.drewN j := by
  have c1 := hc.cS k hk
  have hl := hc.ltp
  clear hc
  go_enter Try.func41, Try.ntmps41
  go_wp2_with fail
  go_quiet (fail)
  go_wp2_with fail
  go_ret
  exact ⟨rfl, nq, rfl⟩
theorem cAskLine (t h : Int) (n : Nat) (D S : Nat → Int) (p m a b : Nat) (w : World) (hc : CAt w p m t n D S) (ha : w.cell? ⟨a, 0, none⟩ = some (.pointer (some ⟨p, 0, none⟩))) (hb : w.cell? ⟨b, 0, none⟩ = some (.int .i64 h)) :
    Calls Try.prog 38 #[.pointer (some ⟨p, 0, none⟩), .int .i64 h, .func (.func 39) #[] #[.pointer (some ⟨a, 0, none⟩), .pointer (some ⟨b, 0, none⟩)]] w
      fun e w' => e = .returned (.bool (cLn t n D h)) ∧ Below w.heap.size w w' := by
  have hn := hc.n1
  cases hq : isHart n h
  · rw [show cLn t n D h = false by unfold cLn; rw [hq]; rfl]
    have HB := Lib.hid hq
    clear hq
    go_enter Try.func38, Try.ntmps38
    go_wp2_with (go_at_call 40; refine (cIsHart _ _ _ _ _ _ _ _ hc).mono ?_; rw [HB.out]; rintro e w' ⟨rfl, rfl⟩)
    go_ret
    exact ⟨rfl, tr0 w⟩
  · have hh : 0 ≤ h ∧ h < (n : Int) := by unfold isHart at hq; simpa using hq
    obtain ⟨k, rfl⟩ := Int.eq_ofNat_of_zero_le hh.1
    have hk : k < 8 := by omega
    rw [show cLn t n D (k : Int) = decide (D k ≤ t) by unfold cLn; rw [hq]; rfl]
    have HB := Lib.hid hq
    clear hq hh
    go_enter Try.func38, Try.ntmps38
    go_wp2_with (go_at_call 40; refine (cIsHart _ _ _ _ _ _ _ _ hc).mono ?_; rw [HB.out]; rintro e w' ⟨rfl, rfl⟩)
    refine (cLine1 t n k D S p m a b _ hc hk ha hb).mono ?_
    rintro e w' ⟨rfl, j, rfl⟩
    go_wp2_with fail
    go_ret
    exact ⟨rfl, trN (tr0 w) _⟩
theorem cLine (t h : Int) (n : Nat) (D S : Nat → Int) (p m : Nat) (w : World) (hc : CAt w p m t n D S) :
    Calls Try.prog 19 #[.pointer (some ⟨p, 0, none⟩), .int .i64 h] w fun e w' => e = .returned (.bool (cLn t n D h)) ∧ Below w.heap.size w w' := by
  have hmf : ∀ (fn : Fn) (first cap : Array Value) (w : World), (Instr.makeFunc fn first cap).run Try.prog w = .ok (.func fn first cap) w := fun _ _ _ _ => rfl
  have hc2 := hc.below (trA (trA (tr0 w) (.cells #[.pointer (some ⟨p, 0, none⟩)] 23)) (.cells #[.int .i64 h] 3))
  have h0 := blk_cell (b2_0 w (.cells #[.pointer (some ⟨p, 0, none⟩)] 23) (.cells #[.int .i64 h] 3)) 0
  have h1 := blk_cell (b2_1 w (.cells #[.pointer (some ⟨p, 0, none⟩)] 23) (.cells #[.int .i64 h] 3)) 0
  simp only [List.getElem?_toArray, List.getElem?_cons_zero] at h0 h1
  have H2 := Lib.hid hc2
  clear hc2 hc
  go_enter Try.func19, Try.ntmps19
  go_wp2_with fail
  refine (cAskLine t h n D S p m _ _ _ H2.out h0 h1).mono ?_
  rintro e w' ⟨rfl, hb⟩
  go_wp2_with fail
  go_ret
  exact ⟨rfl, tr (trA (trA (tr0 w) _) _) hb⟩
theorem cAskLineNil (h : Int) (a b : Nat) (w : World) :
    Calls Try.prog 38 #[.pointer none, .int .i64 h, .func (.func 39) #[] #[.pointer (some ⟨a, 0, none⟩), .pointer (some ⟨b, 0, none⟩)]] w
      fun e w' => e = .returned (.bool false) ∧ w = w' := by
  go_enter Try.func38, Try.ntmps38
  go_wp2_with (go_at_call 40; refine (cIsHartNil _ _).mono ?_; rintro e w' ⟨rfl, rfl⟩)
  go_ret
  exact ⟨rfl, rfl⟩
theorem cLineNil (h : Int) (w : World) :
    Calls Try.prog 19 #[.pointer none, .int .i64 h] w fun e w' => e = .returned (.bool false) ∧ Below w.heap.size w w' := by
  have hmf : ∀ (fn : Fn) (first cap : Array Value) (w : World), (Instr.makeFunc fn first cap).run Try.prog w = .ok (.func fn first cap) w := fun _ _ _ _ => rfl
  go_enter Try.func19, Try.ntmps19
  go_wp2_with fail
  refine (cAskLineNil h _ _ _).mono ?_
  rintro e w' ⟨rfl, rfl⟩
  go_wp2_with fail
  go_ret
  exact ⟨rfl, trA (trA (tr0 w) _) _⟩

theorem cAskSoft (t h : Int) (n : Nat) (D S : Nat → Int) (p m a b : Nat) (w : World) (hc : CAt w p m t n D S) (ha : w.cell? ⟨a, 0, none⟩ = some (.pointer (some ⟨p, 0, none⟩))) (hb : w.cell? ⟨b, 0, none⟩ = some (.int .i64 h)) :
    Calls Try.prog 38 #[.pointer (some ⟨p, 0, none⟩), .int .i64 h, .func (.func 41) #[] #[.pointer (some ⟨a, 0, none⟩), .pointer (some ⟨b, 0, none⟩)]] w
      fun e w' => e = .returned (.bool (cSf n S h)) ∧ Below w.heap.size w w' := by
  have hn := hc.n1
  cases hq : isHart n h
  · rw [show cSf n S h = false by unfold cSf; rw [hq]; rfl]
    have HB := Lib.hid hq
    clear hq
    go_enter Try.func38, Try.ntmps38
    go_wp2_with (go_at_call 40; refine (cIsHart _ _ _ _ _ _ _ _ hc).mono ?_; rw [HB.out]; rintro e w' ⟨rfl, rfl⟩)
    go_ret
    exact ⟨rfl, tr0 w⟩
  · have hh : 0 ≤ h ∧ h < (n : Int) := by unfold isHart at hq; simpa using hq
    obtain ⟨k, rfl⟩ := Int.eq_ofNat_of_zero_le hh.1
    have hk : k < 8 := by omega
    rw [show cSf n S (k : Int) = (S k == 1) by unfold cSf; rw [hq]; rfl]
    have HB := Lib.hid hq
    clear hq hh
    go_enter Try.func38, Try.ntmps38
    go_wp2_with (go_at_call 40; refine (cIsHart _ _ _ _ _ _ _ _ hc).mono ?_; rw [HB.out]; rintro e w' ⟨rfl, rfl⟩)
    refine (cSoft1 t n k D S p m a b _ hc hk ha hb).mono ?_
    rintro e w' ⟨rfl, j, rfl⟩
    go_wp2_with fail
    go_ret
    exact ⟨rfl, trN (tr0 w) _⟩
theorem cSoft (t h : Int) (n : Nat) (D S : Nat → Int) (p m : Nat) (w : World) (hc : CAt w p m t n D S) :
    Calls Try.prog 23 #[.pointer (some ⟨p, 0, none⟩), .int .i64 h] w fun e w' => e = .returned (.bool (cSf n S h)) ∧ Below w.heap.size w w' := by
  have hmf : ∀ (fn : Fn) (first cap : Array Value) (w : World), (Instr.makeFunc fn first cap).run Try.prog w = .ok (.func fn first cap) w := fun _ _ _ _ => rfl
  have hc2 := hc.below (trA (trA (tr0 w) (.cells #[.pointer (some ⟨p, 0, none⟩)] 23)) (.cells #[.int .i64 h] 3))
  have h0 := blk_cell (b2_0 w (.cells #[.pointer (some ⟨p, 0, none⟩)] 23) (.cells #[.int .i64 h] 3)) 0
  have h1 := blk_cell (b2_1 w (.cells #[.pointer (some ⟨p, 0, none⟩)] 23) (.cells #[.int .i64 h] 3)) 0
  simp only [List.getElem?_toArray, List.getElem?_cons_zero] at h0 h1
  have H2 := Lib.hid hc2
  clear hc2 hc
  go_enter Try.func23, Try.ntmps23
  go_wp2_with fail
  refine (cAskSoft t h n D S p m _ _ _ H2.out h0 h1).mono ?_
  rintro e w' ⟨rfl, hb⟩
  go_wp2_with fail
  go_ret
  exact ⟨rfl, tr (trA (trA (tr0 w) _) _) hb⟩
theorem cAskSoftNil (h : Int) (a b : Nat) (w : World) :
    Calls Try.prog 38 #[.pointer none, .int .i64 h, .func (.func 41) #[] #[.pointer (some ⟨a, 0, none⟩), .pointer (some ⟨b, 0, none⟩)]] w
      fun e w' => e = .returned (.bool false) ∧ w = w' := by
  go_enter Try.func38, Try.ntmps38
  go_wp2_with (go_at_call 40; refine (cIsHartNil _ _).mono ?_; rintro e w' ⟨rfl, rfl⟩)
  go_ret
  exact ⟨rfl, rfl⟩
theorem cSoftNil (h : Int) (w : World) :
    Calls Try.prog 23 #[.pointer none, .int .i64 h] w fun e w' => e = .returned (.bool false) ∧ Below w.heap.size w w' := by
  have hmf : ∀ (fn : Fn) (first cap : Array Value) (w : World), (Instr.makeFunc fn first cap).run Try.prog w = .ok (.func fn first cap) w := fun _ _ _ _ => rfl
  go_enter Try.func23, Try.ntmps23
  go_wp2_with fail
  refine (cAskSoftNil h _ _ _).mono ?_
  rintro e w' ⟨rfl, rfl⟩
  go_wp2_with fail
  go_ret
  exact ⟨rfl, trA (trA (tr0 w) _) _⟩
end Go.Proofs.Ytfkkimbdjobpmaa.B
