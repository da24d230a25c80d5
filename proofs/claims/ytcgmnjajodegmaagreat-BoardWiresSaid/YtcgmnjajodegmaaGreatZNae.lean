/- Several texts in one: Package clint: Line, Soft. The plain numbers of layer 2 (reg): words written, with bits set, with bits 0: no Go, no program. The plain numbers of layer 4 (lines): the least place of which something holds; single bits set. No Go. Put back what was read: the word as it was. -/
import Derived.Test.YtcgmnjajodegmaaGreatZNaa
import Derived.Test.YtcgmnjajodegmaaGreatZNad
namespace Go.Proofs.YtcgmnjajodegmaaGreat.B
set_option linter.unusedVariables false
set_option linter.unusedSimpArgs false
open Go.ChangeShapes Go.WideShapes Go.RowKit Go.Sort Go.MapKept
/-- Is a hart's line high? Its soft line? -/
def cLn (t : Int) (n : Nat) (D : Nat → Int) (h : Int) : Bool := isHart n h && decide (D h.toNat ≤ t)
def cSf (n : Nat) (S : Nat → Int) (h : Int) : Bool := isHart n h && (S h.toNat == 1)
theorem cLine1 (t : Int) (n k : Nat) (D S : Nat → Int) (p m a b : Nat) (w : World) (hc : CAt w p m t n D S) (hk : k < 8) (ha : w.cell? ⟨a, 0, none⟩ = some (.pointer (some ⟨p, 0, none⟩))) (hb : w.cell? ⟨b, 0, none⟩ = some (.int .i64 k)) :
    Calls Tryz.prog 140 #[.pointer (some ⟨a, 0, none⟩), .pointer (some ⟨b, 0, none⟩)] w fun e w' => e = .returned (.bool (decide (D k ≤ t))) ∧ ∃ j, w' = w.drewN j := by
  have c0 := hc.c0
  have c1 := hc.cD k hk
  have hl := hc.ltp
  clear hc
  go_enter Tryz.func140, Tryz.ntmps140
  go_wp2_with fail
  go_quiet (fail)
  go_wp2_with fail
  go_ret
  exact ⟨rfl, nq, rfl⟩
theorem cSoft1 (t : Int) (n k : Nat) (D S : Nat → Int) (p m a b : Nat) (w : World) (hc : CAt w p m t n D S) (hk : k < 8) (ha : w.cell? ⟨a, 0, none⟩ = some (.pointer (some ⟨p, 0, none⟩))) (hb : w.cell? ⟨b, 0, none⟩ = some (.int .i64 k)) :
    Calls Tryz.prog 175 #[.pointer (some ⟨a, 0, none⟩), .pointer (some ⟨b, 0, none⟩)] w fun e w' => e = .returned (.bool (S k == 1)) ∧ ∃ j, w' = w.drewN j := by
  have c1 := hc.cS k hk
  have hl := hc.ltp
  clear hc
  go_enter Tryz.func175, Tryz.ntmps175
  go_wp2_with fail
  go_quiet (fail)
  go_wp2_with fail
  go_ret
  exact ⟨rfl, nq, rfl⟩
theorem cAskLine (t h : Int) (n : Nat) (D S : Nat → Int) (p m a b : Nat) (w : World) (hc : CAt w p m t n D S) (ha : w.cell? ⟨a, 0, none⟩ = some (.pointer (some ⟨p, 0, none⟩))) (hb : w.cell? ⟨b, 0, none⟩ = some (.int .i64 h)) :
    Calls Tryz.prog 139 #[.pointer (some ⟨p, 0, none⟩), .int .i64 h, .func (.func 140) #[] #[.pointer (some ⟨a, 0, none⟩), .pointer (some ⟨b, 0, none⟩)]] w
      fun e w' => e = .returned (.bool (cLn t n D h)) ∧ Below w.heap.size w w' := by
  have hn := hc.n1
  cases hq : isHart n h
  · rw [show cLn t n D h = false by unfold cLn; rw [hq]; rfl]
    have HB := Lib.hid hq
    clear hq
    go_enter Tryz.func139, Tryz.ntmps139
    go_wp2_with (go_at_call 138; refine (cIsHart _ _ _ _ _ _ _ _ hc).mono ?_; rw [HB.out]; rintro e w' ⟨rfl, rfl⟩)
    go_ret
    exact ⟨rfl, tr0 w⟩
  · have hh : 0 ≤ h ∧ h < (n : Int) := by unfold isHart at hq; simpa using hq
    obtain ⟨k, rfl⟩ := Int.eq_ofNat_of_zero_le hh.1
    have hk : k < 8 := by omega
    rw [show cLn t n D (k : Int) = decide (D k ≤ t) by unfold cLn; rw [hq]; rfl]
    have HB := Lib.hid hq
    clear hq hh
    go_enter Tryz.func139, Tryz.ntmps139
    go_wp2_with (go_at_call 138; refine (cIsHart _ _ _ _ _ _ _ _ hc).mono ?_; rw [HB.out]; rintro e w' ⟨rfl, rfl⟩)
    refine (cLine1 t n k D S p m a b _ hc hk ha hb).mono ?_
    rintro e w' ⟨rfl, j, rfl⟩
    go_wp2_with fail
    go_ret
    exact ⟨rfl, trN (tr0 w) _⟩
theorem cLine (t h : Int) (n : Nat) (D S : Nat → Int) (p m : Nat) (w : World) (hc : CAt w p m t n D S) :
    Calls Tryz.prog 69 #[.pointer (some ⟨p, 0, none⟩), .int .i64 h] w fun e w' => e = .returned (.bool (cLn t n D h)) ∧ Below w.heap.size w w' := by
  have hmf : ∀ (fn : Fn) (first cap : Array Value) (w : World), (Instr.makeFunc fn first cap).run Tryz.prog w = .ok (.func fn first cap) w := fun _ _ _ _ => rfl
  have hc2 := hc.below (trA (trA (tr0 w) (.cells #[.pointer (some ⟨p, 0, none⟩)] 79)) (.cells #[.int .i64 h] 3))
  have h0 := blk_cell (b2_0 w (.cells #[.pointer (some ⟨p, 0, none⟩)] 79) (.cells #[.int .i64 h] 3)) 0
  have h1 := blk_cell (b2_1 w (.cells #[.pointer (some ⟨p, 0, none⟩)] 79) (.cells #[.int .i64 h] 3)) 0
  simp only [List.getElem?_toArray, List.getElem?_cons_zero] at h0 h1
  have H2 := Lib.hid hc2
  clear hc2 hc
  go_enter Tryz.func69, Tryz.ntmps69
  go_wp2_with fail
  refine (cAskLine t h n D S p m _ _ _ H2.out h0 h1).mono ?_
  rintro e w' ⟨rfl, hb⟩
  go_wp2_with fail
  go_ret
  exact ⟨rfl, tr (trA (trA (tr0 w) _) _) hb⟩
theorem cAskLineNil (h : Int) (a b : Nat) (w : World) :
    Calls Tryz.prog 139 #[.pointer none, .int .i64 h, .func (.func 140) #[] #[.pointer (some ⟨a, 0, none⟩), .pointer (some ⟨b, 0, none⟩)]] w
      fun e w' => e = .returned (.bool false) ∧ w = w' := by
  go_enter Tryz.func139, Tryz.ntmps139
  go_wp2_with (go_at_call 138; refine (cIsHartNil _ _).mono ?_; rintro e w' ⟨rfl, rfl⟩)
  go_ret
  exact ⟨rfl, rfl⟩
theorem cLineNil (h : Int) (w : World) :
    Calls Tryz.prog 69 #[.pointer none, .int .i64 h] w fun e w' => e = .returned (.bool false) ∧ Below w.heap.size w w' := by
  have hmf : ∀ (fn : Fn) (first cap : Array Value) (w : World), (Instr.makeFunc fn first cap).run Tryz.prog w = .ok (.func fn first cap) w := fun _ _ _ _ => rfl
  go_enter Tryz.func69, Tryz.ntmps69
  go_wp2_with fail
  refine (cAskLineNil h _ _ _).mono ?_
  rintro e w' ⟨rfl, rfl⟩
  go_wp2_with fail
  go_ret
  exact ⟨rfl, trA (trA (tr0 w) _) _⟩

theorem cAskSoft (t h : Int) (n : Nat) (D S : Nat → Int) (p m a b : Nat) (w : World) (hc : CAt w p m t n D S) (ha : w.cell? ⟨a, 0, none⟩ = some (.pointer (some ⟨p, 0, none⟩))) (hb : w.cell? ⟨b, 0, none⟩ = some (.int .i64 h)) :
    Calls Tryz.prog 139 #[.pointer (some ⟨p, 0, none⟩), .int .i64 h, .func (.func 175) #[] #[.pointer (some ⟨a, 0, none⟩), .pointer (some ⟨b, 0, none⟩)]] w
      fun e w' => e = .returned (.bool (cSf n S h)) ∧ Below w.heap.size w w' := by
  have hn := hc.n1
  cases hq : isHart n h
  · rw [show cSf n S h = false by unfold cSf; rw [hq]; rfl]
    have HB := Lib.hid hq
    clear hq
    go_enter Tryz.func139, Tryz.ntmps139
    go_wp2_with (go_at_call 138; refine (cIsHart _ _ _ _ _ _ _ _ hc).mono ?_; rw [HB.out]; rintro e w' ⟨rfl, rfl⟩)
    go_ret
    exact ⟨rfl, tr0 w⟩
  · have hh : 0 ≤ h ∧ h < (n : Int) := by unfold isHart at hq; simpa using hq
    obtain ⟨k, rfl⟩ := Int.eq_ofNat_of_zero_le hh.1
    have hk : k < 8 := by omega
    rw [show cSf n S (k : Int) = (S k == 1) by unfold cSf; rw [hq]; rfl]
    have HB := Lib.hid hq
    clear hq hh
    go_enter Tryz.func139, Tryz.ntmps139
    go_wp2_with (go_at_call 138; refine (cIsHart _ _ _ _ _ _ _ _ hc).mono ?_; rw [HB.out]; rintro e w' ⟨rfl, rfl⟩)
    refine (cSoft1 t n k D S p m a b _ hc hk ha hb).mono ?_
    rintro e w' ⟨rfl, j, rfl⟩
    go_wp2_with fail
    go_ret
    exact ⟨rfl, trN (tr0 w) _⟩
theorem cSoft (t h : Int) (n : Nat) (D S : Nat → Int) (p m : Nat) (w : World) (hc : CAt w p m t n D S) :
    Calls Tryz.prog 131 #[.pointer (some ⟨p, 0, none⟩), .int .i64 h] w fun e w' => e = .returned (.bool (cSf n S h)) ∧ Below w.heap.size w w' := by
  have hmf : ∀ (fn : Fn) (first cap : Array Value) (w : World), (Instr.makeFunc fn first cap).run Tryz.prog w = .ok (.func fn first cap) w := fun _ _ _ _ => rfl
  have hc2 := hc.below (trA (trA (tr0 w) (.cells #[.pointer (some ⟨p, 0, none⟩)] 79)) (.cells #[.int .i64 h] 3))
  have h0 := blk_cell (b2_0 w (.cells #[.pointer (some ⟨p, 0, none⟩)] 79) (.cells #[.int .i64 h] 3)) 0
  have h1 := blk_cell (b2_1 w (.cells #[.pointer (some ⟨p, 0, none⟩)] 79) (.cells #[.int .i64 h] 3)) 0
  simp only [List.getElem?_toArray, List.getElem?_cons_zero] at h0 h1
  have H2 := Lib.hid hc2
  clear hc2 hc
  go_enter Tryz.func131, Tryz.ntmps131
  go_wp2_with fail
  refine (cAskSoft t h n D S p m _ _ _ H2.out h0 h1).mono ?_
  rintro e w' ⟨rfl, hb⟩
  go_wp2_with fail
  go_ret
  exact ⟨rfl, tr (trA (trA (tr0 w) _) _) hb⟩
theorem cAskSoftNil (h : Int) (a b : Nat) (w : World) :
    Calls Tryz.prog 139 #[.pointer none, .int .i64 h, .func (.func 175) #[] #[.pointer (some ⟨a, 0, none⟩), .pointer (some ⟨b, 0, none⟩)]] w
      fun e w' => e = .returned (.bool false) ∧ w = w' := by
  go_enter Tryz.func139, Tryz.ntmps139
  go_wp2_with (go_at_call 138; refine (cIsHartNil _ _).mono ?_; rintro e w' ⟨rfl, rfl⟩)
  go_ret
  exact ⟨rfl, rfl⟩
theorem cSoftNil (h : Int) (w : World) :
    Calls Tryz.prog 131 #[.pointer none, .int .i64 h] w fun e w' => e = .returned (.bool false) ∧ Below w.heap.size w w' := by
  have hmf : ∀ (fn : Fn) (first cap : Array Value) (w : World), (Instr.makeFunc fn first cap).run Tryz.prog w = .ok (.func fn first cap) w := fun _ _ _ _ => rfl
  go_enter Tryz.func131, Tryz.ntmps131
  go_wp2_with fail
  refine (cAskSoftNil h _ _ _).mono ?_
  rintro e w' ⟨rfl, rfl⟩
  go_wp2_with fail
  go_ret
  exact ⟨rfl, trA (trA (tr0 w) _) _⟩
end Go.Proofs.YtcgmnjajodegmaaGreat.B
namespace Go.Proofs.YtcgmnjajodegmaaGreat.B
set_option linter.unusedVariables false
set_option linter.unusedSimpArgs false
/-- Is a bit of a register set, written v? -/
def stB (a wr cl v : Int) (i : Nat) : Bool := if (bit cl i && bit v i) = true then false else if bit wr i = true then bit v i else bit a i
def stV (a wr cl v : Int) : Int := ((ofBits (stB a wr cl v) 32 : Nat) : Int)
def tnB (a up dn : Int) (i : Nat) : Bool := (bit a i || bit up i) && !bit dn i
def tnV (a up dn : Int) : Int := ((ofBits (tnB a up dn) 32 : Nat) : Int)
/-- The number so far, and the unit. -/
def ob (f : Nat → Bool) (k : Nat) : Int := ((ofBits f k : Nat) : Int)
def un (k : Nat) : Int := 2 ^ k % 4294967296
theorem ob_zero (f : Nat → Bool) : ob f 0 = 0 := rfl
theorem ob_bounds (f : Nat → Bool) (k : Nat) (h : k ≤ 32) : 0 ≤ ob f k ∧ ob f k < 4294967296 := by
  have a := ofBits_lt f k
  have b : 2 ^ k ≤ 2 ^ 32 := Nat.pow_le_pow_right (by decide) h
  unfold ob; omega
theorem un_bounds (k : Nat) : 0 ≤ un k ∧ un k < 4294967296 := by unfold un; omega
theorem un_pow (k : Nat) (h : k < 32) : un k = ((2 ^ k : Nat) : Int) := by
  have b : 2 ^ k ≤ 2 ^ 31 := Nat.pow_le_pow_right (by decide) (by omega)
  unfold un; rw [← cast_two_pow]
  generalize 2 ^ k = x at b ⊢
  omega
theorem un_succ (k : Nat) : un (k + 1) = 2 * un k % 4294967296 := by
  unfold un; rw [Int.pow_succ]; omega
theorem ob_un (f : Nat → Bool) (k : Nat) (h : k < 32) : ob f k + un k < 4294967296 := by
  have a := ofBits_lt f k
  have b : 2 ^ (k + 1) ≤ 2 ^ 32 := Nat.pow_le_pow_right (by decide) (by omega)
  rw [Nat.pow_succ] at b
  rw [un_pow k h]; unfold ob; omega
theorem ob_yes (f : Nat → Bool) (k : Nat) (h : k < 32) (hf : f k = true) : ob f (k + 1) = ob f k + un k := by
  rw [un_pow k h]; unfold ob; rw [ofBits, if_pos hf]; push_cast; rfl
theorem ob_no (f : Nat → Bool) (k : Nat) (hf : f k = false) : ob f (k + 1) = ob f k := by
  unfold ob; rw [ofBits, if_neg (by rw [hf]; decide)]; simp
theorem bit_testBit (n : Int) (i : Nat) (h : 0 ≤ n) : bit n i = n.toNat.testBit i := by
  obtain ⟨m, rfl⟩ := Int.eq_ofNat_of_zero_le h
  rw [Int.toNat_natCast, Nat.testBit_eq_decide_div_mod_eq]
  unfold bit
  have : ((m : Int) / 2 ^ i % 2) = ((m / 2 ^ i % 2 : Nat) : Int) := by push_cast; rfl
  rw [this]
  exact decide_eq_decide.2 (by omega)
theorem bit_ofBits (f : Nat → Bool) (i : Nat) : bit ((ofBits f 32 : Nat) : Int) i = (decide (i < 32) && f i) := by
  rw [bit_testBit _ _ (by omega), Int.toNat_natCast, ofBits_testBit]
theorem bit_high (n : Int) (i : Nat) (h0 : 0 ≤ n) (h1 : n < 4294967296) (hi : 32 ≤ i) : bit n i = false := by
  rw [bit_testBit n i h0]
  apply Nat.testBit_lt_two_pow
  have : 2 ^ 32 ≤ 2 ^ i := Nat.pow_le_pow_right (by decide) hi
  omega
/-- Words of 32 bits with the same bits are the same. -/
theorem same_bits {a b : Int} (a0 : 0 ≤ a) (a1 : a < 4294967296) (b0 : 0 ≤ b) (b1 : b < 4294967296) (h : ∀ i, i < 32 → bit a i = bit b i) : a = b := by
  have : a.toNat = b.toNat := by
    apply Nat.eq_of_testBit_eq
    intro i
    rw [← bit_testBit a i a0, ← bit_testBit b i b0]
    by_cases hi : i < 32
    · exact h i hi
    · rw [bit_high a i a0 a1 (by omega), bit_high b i b0 b1 (by omega)]
  omega
theorem and_bounds (a b : Int) (a0 : 0 ≤ a) (a1 : a < 4294967296) (b0 : 0 ≤ b) (b1 : b < 4294967296) : 0 ≤ bits BinOp.and IntKind.u32 a b ∧ bits BinOp.and IntKind.u32 a b < 4294967296 := by
  rw [u32_and _ _ a0 a1 b0 b1]
  have : a.toNat &&& b.toNat ≤ a.toNat := Nat.and_le_left
  omega
theorem andNot_bounds (a b : Int) (a0 : 0 ≤ a) (a1 : a < 4294967296) (b0 : 0 ≤ b) (b1 : b < 4294967296) : 0 ≤ bits BinOp.andNot IntKind.u32 a b ∧ bits BinOp.andNot IntKind.u32 a b < 4294967296 := by
  rw [u32_andNot _ _ a0 a1 b0 b1]
  have : a.toNat &&& (4294967295 - b.toNat) ≤ a.toNat := Nat.and_le_left
  omega
theorem or_nat (a b : Int) (a0 : 0 ≤ a) (a1 : a < 4294967296) (b0 : 0 ≤ b) (b1 : b < 4294967296) : bits BinOp.or IntKind.u32 a b = ((a.toNat ||| b.toNat : Nat) : Int) := by
  obtain ⟨m, rfl⟩ := Int.eq_ofNat_of_zero_le a0
  obtain ⟨n, rfl⟩ := Int.eq_ofNat_of_zero_le b0
  rw [u32_or_nat _ _ (by omega) (by omega)]; simp
theorem or_bounds (a b : Int) (a0 : 0 ≤ a) (a1 : a < 4294967296) (b0 : 0 ≤ b) (b1 : b < 4294967296) : 0 ≤ bits BinOp.or IntKind.u32 a b ∧ bits BinOp.or IntKind.u32 a b < 4294967296 := by
  rw [or_nat _ _ a0 a1 b0 b1]
  have : a.toNat ||| b.toNat < 2 ^ 32 := Nat.or_lt_two_pow (by omega) (by omega)
  omega
theorem bit_and (a b : Int) (i : Nat) (a0 : 0 ≤ a) (a1 : a < 4294967296) (b0 : 0 ≤ b) (b1 : b < 4294967296) : bit (bits BinOp.and IntKind.u32 a b) i = (bit a i && bit b i) := by
  rw [u32_and _ _ a0 a1 b0 b1, bit_testBit _ _ (by omega), Int.toNat_natCast, Nat.testBit_and, bit_testBit _ _ a0, bit_testBit _ _ b0]
theorem bit_or (a b : Int) (i : Nat) (a0 : 0 ≤ a) (a1 : a < 4294967296) (b0 : 0 ≤ b) (b1 : b < 4294967296) : bit (bits BinOp.or IntKind.u32 a b) i = (bit a i || bit b i) := by
  rw [or_nat _ _ a0 a1 b0 b1, bit_testBit _ _ (by omega), Int.toNat_natCast, Nat.testBit_or, bit_testBit _ _ a0, bit_testBit _ _ b0]
theorem bit_andNot (a b : Int) (i : Nat) (hi : i < 32) (a0 : 0 ≤ a) (a1 : a < 4294967296) (b0 : 0 ≤ b) (b1 : b < 4294967296) : bit (bits BinOp.andNot IntKind.u32 a b) i = (bit a i && !bit b i) := by
  rw [u32_andNot _ _ a0 a1 b0 b1, bit_testBit _ _ (by omega), Int.toNat_natCast, Nat.testBit_and, bit_testBit _ _ a0, bit_testBit _ _ b0,
    show 4294967295 - b.toNat = 2 ^ 32 - (b.toNat + 1) from by omega, Nat.testBit_two_pow_sub_succ (by omega)]
  simp [hi]
theorem stV_bounds (a wr cl v : Int) : 0 ≤ stV a wr cl v ∧ stV a wr cl v < 4294967296 := ob_bounds (stB a wr cl v) 32 (by omega)
theorem tnV_bounds (a up dn : Int) : 0 ≤ tnV a up dn ∧ tnV a up dn < 4294967296 := ob_bounds (tnB a up dn) 32 (by omega)
theorem bit_stV (a wr cl v : Int) (i : Nat) (hi : i < 32) : bit (stV a wr cl v) i = stB a wr cl v i := by
  unfold stV; rw [bit_ofBits]; simp [hi]
theorem bit_tnV (a up dn : Int) (i : Nat) (hi : i < 32) : bit (tnV a up dn) i = tnB a up dn i := by
  unfold tnV; rw [bit_ofBits]; simp [hi]
theorem bit_zero (i : Nat) : bit 0 i = false := by unfold bit; simp
theorem store_code (a wr cl v : Int) (a0 : 0 ≤ a) (a1 : a < 4294967296) (w0 : 0 ≤ wr) (w1 : wr < 4294967296) (c0 : 0 ≤ cl) (c1 : cl < 4294967296) (v0 : 0 ≤ v) (v1 : v < 4294967296) :
    bits BinOp.andNot IntKind.u32 (bits BinOp.or IntKind.u32 (bits BinOp.andNot IntKind.u32 a wr) (bits BinOp.and IntKind.u32 v wr)) (bits BinOp.and IntKind.u32 v cl) = stV a wr cl v := by
  obtain ⟨p0, p1⟩ := andNot_bounds a wr a0 a1 w0 w1
  obtain ⟨q0, q1⟩ := and_bounds v wr v0 v1 w0 w1
  obtain ⟨r0, r1⟩ := and_bounds v cl v0 v1 c0 c1
  obtain ⟨s0, s1⟩ := or_bounds _ _ p0 p1 q0 q1
  obtain ⟨t0, t1⟩ := andNot_bounds _ _ s0 s1 r0 r1
  obtain ⟨u0, u1⟩ := stV_bounds a wr cl v
  refine same_bits t0 t1 u0 u1 fun i hi => ?_
  rw [bit_andNot _ _ i hi s0 s1 r0 r1, bit_or _ _ i p0 p1 q0 q1, bit_andNot _ _ i hi a0 a1 w0 w1, bit_and _ _ i v0 v1 w0 w1, bit_and _ _ i v0 v1 c0 c1, bit_stV _ _ _ _ i hi]
  unfold stB
  cases bit a i <;> cases bit wr i <;> cases bit cl i <;> cases bit v i <;> rfl
theorem raise_code (a v : Int) (a0 : 0 ≤ a) (a1 : a < 4294967296) (v0 : 0 ≤ v) (v1 : v < 4294967296) : bits BinOp.or IntKind.u32 a v = tnV a v 0 := by
  obtain ⟨s0, s1⟩ := or_bounds _ _ a0 a1 v0 v1
  obtain ⟨u0, u1⟩ := tnV_bounds a v 0
  refine same_bits s0 s1 u0 u1 fun i hi => ?_
  rw [bit_or _ _ i a0 a1 v0 v1, bit_tnV _ _ _ i hi]
  unfold tnB; rw [bit_zero]; simp
theorem fall_code (a v : Int) (a0 : 0 ≤ a) (a1 : a < 4294967296) (v0 : 0 ≤ v) (v1 : v < 4294967296) : bits BinOp.andNot IntKind.u32 a v = tnV a 0 v := by
  obtain ⟨s0, s1⟩ := andNot_bounds _ _ a0 a1 v0 v1
  obtain ⟨u0, u1⟩ := tnV_bounds a 0 v
  refine same_bits s0 s1 u0 u1 fun i hi => ?_
  rw [bit_andNot _ _ i hi a0 a1 v0 v1, bit_tnV _ _ _ i hi]
  unfold tnB; rw [bit_zero]; simp
theorem turn_turn (a up dn : Int) : tnV (tnV a up 0) 0 dn = tnV a up dn := by
  obtain ⟨s0, s1⟩ := tnV_bounds (tnV a up 0) 0 dn
  obtain ⟨u0, u1⟩ := tnV_bounds a up dn
  refine same_bits s0 s1 u0 u1 fun i hi => ?_
  rw [bit_tnV _ _ _ i hi, bit_tnV _ _ _ i hi]
  unfold tnB; rw [bit_tnV _ _ _ i hi, bit_zero]; unfold tnB; rw [bit_zero]; simp
/-- Written the same again: as it was. -/
theorem store_again (a wr cl v : Int) : stV (stV a wr cl v) wr cl v = stV a wr cl v := by
  obtain ⟨s0, s1⟩ := stV_bounds (stV a wr cl v) wr cl v
  obtain ⟨u0, u1⟩ := stV_bounds a wr cl v
  refine same_bits s0 s1 u0 u1 fun i hi => ?_
  rw [bit_stV _ _ _ _ i hi, bit_stV _ _ _ _ i hi]
  unfold stB; rw [bit_stV _ _ _ _ i hi]; unfold stB
  cases bit a i <;> cases bit wr i <;> cases bit cl i <;> cases bit v i <;> rfl
end Go.Proofs.YtcgmnjajodegmaaGreat.B
namespace Go.Proofs.YtcgmnjajodegmaaGreat.B
set_option linter.unusedVariables false
set_option linter.unusedSimpArgs false
/-- The least place from i on, of k places; else -1. -/
def lst (f : Nat → Bool) : Nat → Nat → Int
  | 0, _ => -1
  | k + 1, i => if f i = true then (i : Int) else lst f k (i + 1)
def least (f : Nat → Bool) : Int := lst f 32 0
def noneB (f : Nat → Bool) (k : Nat) : Prop := ∀ q, q < k → f q = false
theorem noneB_start (f : Nat → Bool) : noneB f 0 := fun q h => by omega
theorem noneB_next (f : Nat → Bool) (k : Nat) (h : noneB f k) (hf : f k = false) : noneB f (k + 1) := fun q hq => by
  by_cases e : q = k
  · rw [e]; exact hf
  · exact h q (by omega)
theorem lst_some (f : Nat → Bool) (p : Nat) (hp : f p = true) : ∀ d i k, i + d = p → d < k → (∀ q, i ≤ q → q < p → f q = false) → lst f k i = p := by
  intro d
  induction d with
  | zero =>
    intro i k h1 h2 _
    obtain rfl : i = p := by omega
    obtain ⟨j, rfl⟩ : ∃ j, k = j + 1 := ⟨k - 1, by omega⟩
    rw [lst, if_pos hp]
  | succ d ih =>
    intro i k h1 h2 h3
    obtain ⟨j, rfl⟩ : ∃ j, k = j + 1 := ⟨k - 1, by omega⟩
    rw [lst, if_neg (by rw [h3 i (by omega) (by omega)]; simp)]
    exact ih (i + 1) j (by omega) (by omega) fun q h4 h5 => h3 q (by omega) h5
theorem lst_none (f : Nat → Bool) : ∀ k i, (∀ q, i ≤ q → q < i + k → f q = false) → lst f k i = -1 := by
  intro k
  induction k with
  | zero => intro i _; rfl
  | succ k ih =>
    intro i h
    rw [lst, if_neg (by rw [h i (by omega) (by omega)]; simp)]
    exact ih (i + 1) fun q h1 h2 => h q (by omega) (by omega)
theorem least_some (f : Nat → Bool) (k : Nat) (h : noneB f k) (hk : k < 32) (hf : f k = true) : least f = k :=
  lst_some f k hf k 0 32 (by omega) hk fun q _ h2 => h q h2
theorem least_none (f : Nat → Bool) (k : Nat) (h : noneB f k) (hk : 32 ≤ k) : least f = -1 :=
  lst_none f 32 0 fun q _ h2 => h q (by omega)
theorem least_congr (f g : Nat → Bool) (h : ∀ i, i < 32 → f i = g i) : least f = least g := by
  have key : ∀ k i, i + k ≤ 32 → lst f k i = lst g k i := by
    intro k
    induction k with
    | zero => intro i _; rfl
    | succ k ih => intro i hi; rw [lst, lst, h i (by omega), ih (i + 1) (by omega)]
  exact key 32 0 (by omega)
theorem least_bounds (f : Nat → Bool) : -1 ≤ least f ∧ least f < 32 := by
  have key : ∀ k i, i + k ≤ 32 → -1 ≤ lst f k i ∧ lst f k i < 32 := by
    intro k
    induction k with
    | zero => intro i _; rw [lst]; omega
    | succ k ih =>
      intro i hi
      rw [lst]
      split
      · omega
      · exact ih (i + 1) (by omega)
  exact key 32 0 (by omega)
theorem least_yes (f : Nat → Bool) (i : Nat) (hi : i < 32) (h : f i = true) : 0 ≤ least f := by
  have key : ∀ k j, j ≤ i → i < j + k → 0 ≤ lst f k j := by
    intro k
    induction k with
    | zero => intro j h1 h2; omega
    | succ k ih =>
      intro j h1 h2
      rw [lst]
      split
      · omega
      · rename_i hj
        refine ih (j + 1) ?_ (by omega)
        by_cases e : j = i
        · subst e; exact absurd h hj
        · omega
  exact key 32 0 (by omega) (by omega)
theorem least_no (f : Nat → Bool) (h : ∀ i, i < 32 → f i = false) : least f = -1 := lst_none f 32 0 fun q _ h2 => h q (by omega)
/-- High and in the mask. -/
def lm (h m : Int) (i : Nat) : Bool := bit h i && bit m i
theorem lm_both (h m : Int) (h0 : 0 ≤ h) (h1 : h < 4294967296) (m0 : 0 ≤ m) (m1 : m < 4294967296) (i : Nat) : bit (bits BinOp.and IntKind.u32 h m) i = lm h m i := bit_and h m i h0 h1 m0 m1
/-- The output. -/
def outB (h m : Int) : Bool := decide (0 ≤ least (lm h m))
theorem out_code (h m : Int) (h0 : 0 ≤ h) (h1 : h < 4294967296) (m0 : 0 ≤ m) (m1 : m < 4294967296) : (!(h == bits BinOp.andNot IntKind.u32 h m)) = outB h m := by
  have hb := andNot_bounds h m h0 h1 m0 m1
  unfold outB
  by_cases e : ∀ i, i < 32 → lm h m i = false
  · have : h = bits BinOp.andNot IntKind.u32 h m := same_bits h0 h1 hb.1 hb.2 fun i hi => by
      rw [bit_andNot h m i hi h0 h1 m0 m1]
      have := e i hi
      unfold lm at this
      cases hh : bit h i
      · rfl
      · rw [hh] at this; simp at this; rw [this]; rfl
    rw [beq_iff_eq.2 this, least_no _ e]
    rfl
  · have : ¬ h = bits BinOp.andNot IntKind.u32 h m := fun e2 => e fun i hi => by
      have g := bit_andNot h m i hi h0 h1 m0 m1
      rw [← e2] at g
      unfold lm
      cases hh : bit h i
      · rfl
      · rw [hh] at g; simp at g; rw [g]; rfl
    obtain ⟨i, hi⟩ := Classical.not_forall.1 e
    obtain ⟨hi, hl⟩ := Classical.not_imp.1 hi
    rw [beq_eq_false_iff_ne.2 this, decide_eq_true (least_yes _ i hi (by simpa using hl))]
    rfl
theorem toNat_div_two (n : Int) (i : Nat) (h : 0 ≤ n) : ((n.toNat / 2 ^ i % 2 : Nat) : Int) = n / 2 ^ i % 2 := by
  have h1 : n = ((n.toNat : Nat) : Int) := by omega
  have h2 : (2 : Int) ^ i = ((2 ^ i : Nat) : Int) := by push_cast; rfl
  conv => rhs; rw [h1, h2]
  rw [← Int.natCast_ediv]; omega
theorem field_one (n : Int) (k : Nat) (h0 : 0 ≤ n) (hk : k < 32) : (field n (k : Int) 1 == 1) = bit n k := by
  unfold field bit
  rw [if_pos (by unfold inw; simp; omega), Int.toNat_natCast]
  have h : ((n.toNat / 2 ^ k % 2 ^ min (1 : Int).toNat 32 : Nat) : Int) = n / 2 ^ k % 2 := by
    have : min (1 : Int).toNat 32 = 1 := by decide
    rw [this, Nat.pow_one]; exact toNat_div_two n k h0
  rw [h]
  by_cases e : n / 2 ^ k % 2 = 1
  · rw [e]; rfl
  · rw [beq_eq_false_iff_ne.2 e, decide_eq_false e]
/-- A truth as a bit. -/
def tk (b : Bool) : Int := cond b 1 0
/-- One bit put. -/
theorem bit_put_one (n : Int) (k : Nat) (b : Bool) (hk : k < 32) (h0 : 0 ≤ n) (i : Nat) (hi : i < 32) : bit (put n (k : Int) 1 (tk b)) i = if i = k then b else bit n i := by
  unfold put
  rw [if_pos (by unfold inw; simp; omega), bit_ofBits, decide_eq_true hi, Bool.true_and]
  unfold putBit
  rw [Int.toNat_natCast, show (1 : Int).toNat = 1 from rfl]
  by_cases e : i = k
  · subst e
    rw [if_pos (by omega), if_pos rfl, Nat.sub_self]
    cases b <;> rfl
  · rw [if_neg (by omega), if_neg e, bit_testBit n i h0]
/-- All bits turned. -/
def flip (n : Int) : Int := bits BinOp.xor IntKind.u32 IntKind.u32.max n
theorem flip_bounds (n : Int) (n0 : 0 ≤ n) (n1 : n < 4294967296) : 0 ≤ flip n ∧ flip n < 4294967296 := by
  unfold flip
  rw [show IntKind.u32.max = 4294967295 from rfl, u32_xor _ _ (by omega) (by omega) n0 n1]
  have : (4294967295 : Int).toNat ^^^ n.toNat < 2 ^ 32 := Nat.xor_lt_two_pow (by omega) (by omega)
  omega
theorem bit_flip (n : Int) (i : Nat) (hi : i < 32) (n0 : 0 ≤ n) (n1 : n < 4294967296) : bit (flip n) i = !bit n i := by
  unfold flip
  rw [show IntKind.u32.max = 4294967295 from rfl, u32_xor _ _ (by omega) (by omega) n0 n1, bit_testBit _ _ (Int.natCast_nonneg _), Int.toNat_natCast, Nat.testBit_xor, ← bit_testBit n i n0]
  have : (4294967295 : Int).toNat.testBit i = true := by
    rw [show (4294967295 : Int).toNat = 2 ^ 32 - 1 from rfl, Nat.testBit_two_pow_sub_one]; simpa using hi
  rw [this]; simp
end Go.Proofs.YtcgmnjajodegmaaGreat.B
namespace Go.Proofs.YtcgmnjajodegmaaGreat.B
set_option linter.unusedVariables false
set_option linter.unusedSimpArgs false
theorem field_bounds (n low width : Int) (h0 : 0 ≤ n) (h1 : n < 4294967296) : 0 ≤ field n low width ∧ field n low width < 4294967296 := by
  unfold field; split
  · have a : n.toNat / 2 ^ low.toNat % 2 ^ min width.toNat 32 ≤ n.toNat := Nat.le_trans (Nat.mod_le _ _) (Nat.div_le_self _ _)
    omega
  · omega
theorem put_bounds (n low width v : Int) (h0 : 0 ≤ n) (h1 : n < 4294967296) : 0 ≤ put n low width v ∧ put n low width v < 4294967296 := by
  unfold put; split
  · have := ofBits_lt (putBit n low width v) 32
    have e32 : (2 : Nat) ^ 32 = 4294967296 := by decide
    omega
  · omega
theorem put_back (n low width v : Int) (h0 : 0 ≤ n) (h1 : n < 4294967296) : put (put n low width v) low width (field n low width) = n := by
  cases hb : inw low width
  · simp [put, hb]
  · obtain ⟨l0, l1, hw⟩ := inw_low hb
    obtain ⟨m, rfl⟩ := Int.eq_ofNat_of_zero_le h0
    have e32 : (2 : Nat) ^ 32 = 4294967296 := by decide
    rw [show put (put m low width v) low width (field m low width) = ((ofBits (putBit (put m low width v) low width (field m low width)) 32 : Nat) : Int) from by rw [put, if_pos hb]]
    congr 1
    apply Nat.eq_of_testBit_eq
    intro i
    rw [ofBits_testBit]
    by_cases hi : i < 32
    · by_cases hc : low.toNat ≤ i ∧ i - low.toNat < width.toNat
      · have h2 : i - low.toNat < min width.toNat 32 := by omega
        have h3 : i - low.toNat + low.toNat = i := by omega
        have h4 : i - low.toNat < 32 := by omega
        have h5 : putBit (put m low width v) low width (field m low width) i = (m / 2 ^ low.toNat % 2 ^ min width.toNat 32).testBit (i - low.toNat) := by
          rw [putBit, if_pos hc, field, if_pos hb, Int.toNat_natCast, Int.toNat_natCast]
        rw [h5, Nat.testBit_mod_two_pow, Nat.testBit_div_two_pow, h3]
        simp [hi, h2]
      · simp only [putBit, if_neg hc, hi, put, hb, if_true, Int.toNat_natCast, decide_true, Bool.true_and]
        rw [ofBits_testBit]
        simp only [hi, decide_true, Bool.true_and, putBit, if_neg hc, Int.toNat_natCast]
    · have : m.testBit i = false := Nat.testBit_lt_two_pow (Nat.lt_of_lt_of_le (show m < 2 ^ 32 by omega) (Nat.pow_le_pow_right (by decide) (by omega)))
      simp [hi, this]
end Go.Proofs.YtcgmnjajodegmaaGreat.B
