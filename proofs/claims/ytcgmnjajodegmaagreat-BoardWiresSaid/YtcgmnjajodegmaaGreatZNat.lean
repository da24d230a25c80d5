/- Several texts in one: Layer 11 (board) in plain numbers: a word loaded, a word stored. No Go. A file of registers: what each call of package reg does to one, by the list of its offsets and registers. A file of registers: Load, Define. Package bus: single regions, and the document's. -/
import Derived.Test.YtcgmnjajodegmaaGreatZNab
import Derived.Test.YtcgmnjajodegmaaGreatZNac
import Derived.Test.YtcgmnjajodegmaaGreatZNam
import Derived.Test.YtcgmnjajodegmaaGreatZNao
import Derived.Test.YtcgmnjajodegmaaGreatZNas
namespace Go.Proofs.YtcgmnjajodegmaaGreat.B
set_option linter.unusedVariables false
set_option linter.unusedSimpArgs false
/-- Where an address belongs: the device, its offset there. -/
inductive Wh
  | odd | no | cl (o : Int) | bk (o : Int) | dg (o : Int) | rs (o : Int) | rk (o : Int) | ln (o : Int)
def wh (a : Int) : Wh :=
  if a % 4 ≠ 0 then .odd else if 33554432 ≤ a ∧ a < 33603584 then .cl (a - 33554432) else if 268500992 ≤ a ∧ a < 268501248 then .bk (a - 268500992) else if 268566528 ≤ a ∧ a < 268566548 then .dg (a - 268566528)
  else if 268632064 ≤ a ∧ a < 268632080 then .rs (a - 268632064) else if 268697600 ≤ a ∧ a < 268697636 then .rk (a - 268697600) else if 268763136 ≤ a ∧ a < 268763148 then .ln (a - 268763136) else .no
/-- Each address is one of these. -/
inductive WhAt (a : Int) : Prop
  | odd (h : a % 4 ≠ 0) (e : wh a = .odd)
  | cl (h4 : a % 4 = 0) (h0 : 33554432 ≤ a) (h1 : a < 33603584) (e : wh a = .cl (a - 33554432))
  | bk (h4 : a % 4 = 0) (h0 : 268500992 ≤ a) (h1 : a < 268501248) (e : wh a = .bk (a - 268500992))
  | dg (h4 : a % 4 = 0) (h0 : 268566528 ≤ a) (h1 : a < 268566548) (e : wh a = .dg (a - 268566528))
  | rs (h4 : a % 4 = 0) (h0 : 268632064 ≤ a) (h1 : a < 268632080) (e : wh a = .rs (a - 268632064))
  | rk (h4 : a % 4 = 0) (h0 : 268697600 ≤ a) (h1 : a < 268697636) (e : wh a = .rk (a - 268697600))
  | ln (h4 : a % 4 = 0) (h0 : 268763136 ≤ a) (h1 : a < 268763148) (e : wh a = .ln (a - 268763136))
  | no (h4 : a % 4 = 0) (h : ¬ (33554432 ≤ a ∧ a < 33603584) ∧ ¬ (268500992 ≤ a ∧ a < 268501248) ∧ ¬ (268566528 ≤ a ∧ a < 268566548) ∧ ¬ (268632064 ≤ a ∧ a < 268632080) ∧ ¬ (268697600 ≤ a ∧ a < 268697636) ∧ ¬ (268763136 ≤ a ∧ a < 268763148)) (e : wh a = .no)
theorem wh_all (a : Int) : WhAt a := by
  by_cases h4 : a % 4 = 0
  · by_cases h1 : 33554432 ≤ a ∧ a < 33603584
    · exact .cl h4 h1.1 h1.2 (by unfold wh; rw [if_neg (by omega), if_pos h1])
    · by_cases h2 : 268500992 ≤ a ∧ a < 268501248
      · exact .bk h4 h2.1 h2.2 (by unfold wh; rw [if_neg (by omega), if_neg h1, if_pos h2])
      · by_cases h3 : 268566528 ≤ a ∧ a < 268566548
        · exact .dg h4 h3.1 h3.2 (by unfold wh; rw [if_neg (by omega), if_neg h1, if_neg h2, if_pos h3])
        · by_cases h5 : 268632064 ≤ a ∧ a < 268632080
          · exact .rs h4 h5.1 h5.2 (by unfold wh; rw [if_neg (by omega), if_neg h1, if_neg h2, if_neg h3, if_pos h5])
          · by_cases h6 : 268697600 ≤ a ∧ a < 268697636
            · exact .rk h4 h6.1 h6.2 (by unfold wh; rw [if_neg (by omega), if_neg h1, if_neg h2, if_neg h3, if_neg h5, if_pos h6])
            · by_cases h7 : 268763136 ≤ a ∧ a < 268763148
              · exact .ln h4 h7.1 h7.2 (by unfold wh; rw [if_neg (by omega), if_neg h1, if_neg h2, if_neg h3, if_neg h5, if_neg h6, if_pos h7])
              · exact .no h4 ⟨h1, h2, h3, h5, h6, h7⟩ (by unfold wh; rw [if_neg (by omega), if_neg h1, if_neg h2, if_neg h3, if_neg h5, if_neg h6, if_neg h7])
  · exact .odd h4 (by unfold wh; rw [if_pos h4])
/-- A word loaded, and the error. -/
def Bx.ldv (n c : Nat) (x : Bx) (a : Int) : Int := match wh a with
  | .odd => 0 | .no => 0 | .cl o => cVal x.ti n x.D x.S o | .bk o => kVal c x.tm o | .dg o => x.wd.val o | .rs o => sVal9 x.rs o | .rk o => x.rk.valE o | .ln o => lVal (wires n c x) x.msk o
def Bx.lde (n c : Nat) (a : Int) : Int := match wh a with
  | .odd => 11 | .no => 10 | .cl o => cErr n o | .bk o => kLErr c o | .dg o => wErr o | .rs o => sErr9 o | .rk o => sErrT o | .ln o => lErr o
/-- A word stored into its device, and the error. -/
def Bx.put (n c : Nat) (x : Bx) (a v : Int) : Bx := match wh a with
  | .odd => x | .no => x | .cl o => { x with D := cPutD n x.D o v, S := cPutS n x.S o v } | .bk o => { x with tm := kSto c x.tm o v } | .dg o => { x with wd := x.wd.sto o v } | .rs o => { x with rs := x.rs.sto o v }
  | .rk o => { x with rk := x.rk.sto o v } | .ln o => if o = 4 then { x with msk := v } else x
def Bx.ste (n c : Nat) (a : Int) : Int := match wh a with
  | .odd => 11 | .no => 10 | .cl o => cErrS n o | .bk o => kSErr c o | .dg o => wSErr o | .rs o => wErr9 o | .rk o => wErrT o | .ln o => sErr o
/-- What asks for a reset behind a store, as the code looks. -/
def Bx.due (x : Bx) : Int := if x.rs.qs = true then 16 else x.wd.fa
def Bx.look (x : Bx) : Bx := if x.due = 0 then x else x.rst x.due
def Bx.sto (n c : Nat) (x : Bx) (a v : Int) : Bx := (x.put n c a v).look
section
variable {n c : Nat} {x : Bx}
theorem kSto_ok {t : Nat → Tm} (h : ∀ i, i < c → (t i).ok) {o v : Int} (v0 : 0 ≤ v) (v1 : v < 4294967296) : ∀ i, i < c → (kSto c t o v i).ok := by
  intro i hi
  unfold kSto
  split
  · unfold upd1
    split
    · rename_i e; subst e; exact Tm.sto_ok (h _ hi) _ _ v0 v1
    · exact h i hi
  · exact h i hi
theorem cPutD_ok {D : Nat → Int} (h : okD D) {o v : Int} (v0 : 0 ≤ v) (v1 : v < 4294967296) : okD (cPutD n D o v) := by
  unfold cPutD
  split
  · split
    · exact h.upd _ (join_bounds (hi_nonneg (h _).1) (hi_lt (h _).2) v0 v1).1 (join_bounds (hi_nonneg (h _).1) (hi_lt (h _).2) v0 v1).2
    · exact h.upd _ (join_bounds v0 v1 (lo_nonneg _) (lo_lt _)).1 (join_bounds v0 v1 (lo_nonneg _) (lo_lt _)).2
  · exact h
theorem cPutS_ok {S : Nat → Int} (h : okS S) {o v : Int} (v0 : 0 ≤ v) : okS (cPutS n S o v) := by
  unfold cPutS
  split
  · exact h.upd _ (by omega) (by omega)
  · exact h
theorem Bx.put_ok (h : x.ok n c) {a v : Int} (v0 : 0 ≤ v) (v1 : v < 4294967296) : (x.put n c a v).ok n c := by
  unfold Bx.put
  split
  · exact h
  · exact h
  · exact ⟨h.n0, h.n8, h.c0, h.c8, h.t0, h.t1, cPutD_ok h.d v0 v1, cPutS_ok h.s v0, h.tm, h.wd, h.rs, h.rk, h.m0, h.m1⟩
  · exact ⟨h.n0, h.n8, h.c0, h.c8, h.t0, h.t1, h.d, h.s, kSto_ok h.tm v0 v1, h.wd, h.rs, h.rk, h.m0, h.m1⟩
  · exact ⟨h.n0, h.n8, h.c0, h.c8, h.t0, h.t1, h.d, h.s, h.tm, Wd.sto_ok h.wd v0 v1, h.rs, h.rk, h.m0, h.m1⟩
  · exact ⟨h.n0, h.n8, h.c0, h.c8, h.t0, h.t1, h.d, h.s, h.tm, h.wd, Rs.sto_ok h.rs v0 v1, h.rk, h.m0, h.m1⟩
  · exact ⟨h.n0, h.n8, h.c0, h.c8, h.t0, h.t1, h.d, h.s, h.tm, h.wd, h.rs, Rk.sto_ok h.rk v0 v1, h.m0, h.m1⟩
  · split
    · exact ⟨h.n0, h.n8, h.c0, h.c8, h.t0, h.t1, h.d, h.s, h.tm, h.wd, h.rs, h.rk, v0, v1⟩
    · exact h
theorem Wd.sto_fa {t : Wd} (h : t.fa = 0) (o v : Int) : (t.sto o v).fa = 0 ∨ (t.sto o v).fa = 4 ∨ (t.sto o v).fa = 8 := by
  unfold Wd.sto Wd.ctlPut Wd.ctlTo Wd.key
  (repeat' split) <;> simp [h]
theorem Rs.sto_qs (t : Rs) (o v : Int) : o ≠ 8 → (t.sto o v).qs = t.qs := by
  intro h
  unfold Rs.sto
  split
  · rfl
  · rfl
/-- Behind a store: what may be due. -/
theorem Bx.put_due (hs : x.still) (a v : Int) : ((x.put n c a v).wd.fa = 0 ∨ (x.put n c a v).wd.fa = 4 ∨ (x.put n c a v).wd.fa = 8) ∧ ((x.put n c a v).rs.qs = false ∨ (x.put n c a v).wd.fa = 0) := by
  obtain ⟨h1, h2⟩ := hs
  unfold Bx.put
  split
  · exact ⟨.inl h1, .inl h2⟩
  · exact ⟨.inl h1, .inl h2⟩
  · exact ⟨.inl h1, .inl h2⟩
  · exact ⟨.inl h1, .inl h2⟩
  · exact ⟨Wd.sto_fa h1 _ _, .inl h2⟩
  · exact ⟨.inl h1, .inr h1⟩
  · exact ⟨.inl h1, .inl h2⟩
  · split
    · exact ⟨.inl h1, .inl h2⟩
    · exact ⟨.inl h1, .inl h2⟩
theorem Bx.put_isC (hs : x.still) (a v : Int) : (x.put n c a v).due = 0 ∨ isC (x.put n c a v).due := by
  have h := Bx.put_due (n := n) (c := c) hs a v
  unfold Bx.due
  split
  · exact .inr (.inr (.inr (.inr rfl)))
  · rcases h.1 with e | e | e
    · exact .inl e
    · exact .inr (.inr (.inl e))
    · exact .inr (.inr (.inr (.inl e)))
theorem Bx.look_ok (h : x.ok n c) (hc : x.due = 0 ∨ isC x.due) : (x.look).ok n c ∧ (x.look).still := by
  unfold Bx.look
  split
  · rename_i e
    refine ⟨h, ?_⟩
    unfold Bx.due at e
    split at e
    · exact absurd e (by decide)
    · rename_i q
      exact ⟨e, by simpa using q⟩
  · rename_i e
    exact ⟨Bx.rst_ok h _, Bx.rst_still (hc.resolve_left e)⟩
theorem Bx.sto_ok (h : x.ok n c) (hs : x.still) {a v : Int} (v0 : 0 ≤ v) (v1 : v < 4294967296) : (x.sto n c a v).ok n c ∧ (x.sto n c a v).still :=
  Bx.look_ok (Bx.put_ok h v0 v1) (Bx.put_isC hs a v)
theorem Bx.look_still (hs : x.still) : x.look = x := by
  have e : x.due = 0 := by unfold Bx.due; rw [if_neg (by rw [hs.2]; decide)]; exact hs.1
  unfold Bx.look
  rw [if_pos e]
/-- What is refused changes nothing. -/
theorem Bx.put_err {a v : Int} (h : Bx.ste n c a ≠ 0) : x.put n c a v = x := by
  unfold Bx.ste at h
  unfold Bx.put
  cases hw : wh a with
  | odd => rfl
  | no => rfl
  | cl o =>
    rw [hw] at h
    show ({ x with D := cPutD n x.D o v, S := cPutS n x.S o v } : Bx) = x
    rw [err_putD h, err_putS h]
  | bk o =>
    rw [hw] at h
    have h : kSErr c o ≠ 0 := h
    have e : kSto c x.tm o v = x.tm := by unfold kSto; rw [if_neg h]
    show ({ x with tm := kSto c x.tm o v } : Bx) = x
    rw [e]
  | dg o =>
    rw [hw] at h
    have h : wSErr o ≠ 0 := h
    have e : x.wd.sto o v = x.wd := by
      refine Wd.sto_same ?_
      refine ⟨?_, ?_, ?_, ?_⟩ <;> rintro rfl <;> exact h (by decide)
    show ({ x with wd := x.wd.sto o v } : Bx) = x
    rw [e]
  | rs o =>
    rw [hw] at h
    have h : wErr9 o ≠ 0 := h
    have e : x.rs.sto o v = x.rs := by
      unfold Rs.sto
      rw [if_neg (by rintro rfl; exact h (by decide)), if_neg (by rintro rfl; exact h (by decide))]
    show ({ x with rs := x.rs.sto o v } : Bx) = x
    rw [e]
  | rk o =>
    rw [hw] at h
    have h : wErrT o ≠ 0 := h
    show ({ x with rk := x.rk.sto o v } : Bx) = x
    rw [sto_not v h]
  | ln o =>
    rw [hw] at h
    have h : sErr o ≠ 0 := h
    show (if o = 4 then ({ x with msk := v } : Bx) else x) = x
    rw [if_neg (by rintro rfl; exact h (by decide))]
end
end Go.Proofs.YtcgmnjajodegmaaGreat.B
namespace Go.Proofs.YtcgmnjajodegmaaGreat.B
set_option linter.unusedVariables false
set_option linter.unusedSimpArgs false
open Go.ChangeShapes Go.WideShapes Go.RowKit Go.Sort
/-- A register. -/
structure Rg where
  v : Int
  s : Int
  r : Int
  c : Int
def Rg.val (x : Rg) : Value := .agg #[.int .u32 x.v, .int .u32 x.s, .int .u32 x.r, .int .u32 x.c]
def Rg.wf (x : Rg) : Prop := (0 ≤ x.v ∧ x.v < 4294967296) ∧ (0 ≤ x.s ∧ x.s < 4294967296) ∧ (0 ≤ x.r ∧ x.r < 4294967296) ∧ (0 ≤ x.c ∧ x.c < 4294967296)
theorem mem_val {M : List (Int × Rg)} {x : Int} {r : Rg} (h : (x, r) ∈ M) : (x, r.val) ∈ M.map fun p => (p.1, p.2.val) := List.mem_map.2 ⟨_, h, rfl⟩
theorem no_val {M : List (Int × Rg)} {x : Int} (h : ∀ p ∈ M, p.1 ≠ x) : ∀ p ∈ M.map (fun p => (p.1, p.2.val)), p.1 ≠ x := by
  intro p hp; obtain ⟨q, hq, rfl⟩ := List.mem_map.1 hp; exact h q hq
end Go.Proofs.YtcgmnjajodegmaaGreat.B
namespace Go.Proofs.YtcgmnjajodegmaaGreat.B
set_option linter.unusedVariables false
set_option linter.unusedSimpArgs false
open Go.ChangeShapes Go.WideShapes Go.RowKit Go.Sort
/-- The file with a register more, or another one in its place. -/
def putF (off : Int) (x : Rg) (M : List (Int × Rg)) : List (Int × Rg) := (off, x) :: M.filter fun p => decide (p.1 ≠ off)
theorem putF_map (off : Int) (x : Rg) (M : List (Int × Rg)) : putM off x.val (M.map fun p => (p.1, p.2.val)) = (putF off x M).map fun p => (p.1, p.2.val) := by
  unfold putM putF
  rw [List.map_cons, List.filter_map]
  rfl
theorem putF_wf {off : Int} {x : Rg} {M : List (Int × Rg)} (h : ∀ p ∈ M, p.2.wf) (hx : x.wf) : ∀ p ∈ putF off x M, p.2.wf := fun p hp => by
  rcases List.mem_cons.1 hp with rfl | hp
  · exact hx
  · exact h p (List.mem_filter.1 hp).1
theorem putF_new {off : Int} {x : Rg} {M : List (Int × Rg)} (h : ∀ p ∈ M, p.1 ≠ off) : putF off x M = (off, x) :: M := by
  unfold putF
  rw [List.filter_eq_self.2 fun p hp => by simpa using h p hp]
end Go.Proofs.YtcgmnjajodegmaaGreat.B
namespace Go.Proofs.YtcgmnjajodegmaaGreat.B
set_option linter.unusedVariables false
set_option linter.unusedSimpArgs false
open Go.ChangeShapes Go.WideShapes Go.RowKit Go.Sort
/-- Does an address belong to a region? -/
def hasB (b s a : Int) : Bool := decide (b ≤ a ∧ a - b < s)
theorem zHas (b s a : Int) (w : World) (b0 : 0 ≤ b) (b1 : b < 4294967296) (s0 : 0 ≤ s) (s1 : s < 4294967296) (a0 : 0 ≤ a) (a1 : a < 4294967296) :
    Calls Tryz.prog 197 #[.agg #[.int .u32 b, .int .u32 s], .int .u32 a] w fun e w' => e = .returned (.bool (hasB b s a)) ∧ Below w.heap.size w w' := by
  by_cases h1 : b ≤ a
  · by_cases h2 : a - b < s
    all_goals
      have h3 : decide (a - b < s) = hasB b s a := by unfold hasB; rw [decide_eq_decide]; omega
      have h4 := Lib.hid h3
      clear h3
      go_enter Tryz.func197, Tryz.ntmps197
      go_wp2_with fail
      go_ret
      exact ⟨ret_bool (by rw [← h4.out]; simp; omega), trA (tr0 w) _⟩
  · have h3 : hasB b s a = false := by unfold hasB; simp; omega
    have h4 := Lib.hid h3
    clear h3
    go_enter Tryz.func197, Tryz.ntmps197
    go_wp2_with fail
    go_ret
    exact ⟨ret_bool h4.out.symm, trA (tr0 w) _⟩
theorem zEnd (b s : Int) (w : World) (b0 : 0 ≤ b) (b1 : b < 4294967296) (s0 : 0 ≤ s) (s1 : s < 4294967296) :
    Calls Tryz.prog 179 #[.agg #[.int .u32 b, .int .u32 s]] w fun e w' => e = .returned (.int .u64 (b + s)) ∧ Below w.heap.size w w' := by
  go_enter Tryz.func179, Tryz.ntmps179
  go_wp2_with fail
  go_ret
  refine ⟨ret_int ?_, trA (tr0 w) _⟩
  rfl
theorem zHasAs (b s a : Int) (v : Bool) (w : World) (b0 : 0 ≤ b) (b1 : b < 4294967296) (s0 : 0 ≤ s) (s1 : s < 4294967296) (a0 : 0 ≤ a) (a1 : a < 4294967296) (hv : hasB b s a = v) :
    Calls Tryz.prog 197 #[.agg #[.int .u32 b, .int .u32 s], .int .u32 a] w fun e w' => e = .returned (.bool v) ∧ Below w.heap.size w w' := by
  rw [← hv]; exact zHas b s a w b0 b1 s0 s1 a0 a1
/-- Is there an address that belongs to both? -/
def meetB (b s c t : Int) : Bool := decide ((if b ≤ c then c else b) < (if b + s ≤ c + t then b + s else c + t))
theorem zMeet (b s c t : Int) (w : World) (b0 : 0 ≤ b) (b1 : b < 4294967296) (s0 : 0 ≤ s) (s1 : s < 4294967296) (c0 : 0 ≤ c) (c1 : c < 4294967296) (t0 : 0 ≤ t) (t1 : t < 4294967296) :
    Calls Tryz.prog 182 #[.agg #[.int .u32 b, .int .u32 s], .agg #[.int .u32 c, .int .u32 t]] w fun e w' => e = .returned (.bool (meetB b s c t)) ∧ Below w.heap.size w w' := by
  have hg := gcell
  have hf := gfrozen
  have hs0 : w.heap.size < w.heap.size + 1 + 1 := by omega
  have hs1 : w.heap.size + 1 < w.heap.size + 1 + 1 := by omega
  go_enter Tryz.func182, Tryz.ntmps182
  go_wp2_with fail
  refine wp_region_quiet_below (by kernel_rfl) (by kernel_rfl) ?_
  repeat (go_big_quiet_step (first
    | (go_at_call 179; exact Calls.regrown_of (zEnd _ _ _ b0 b1 s0 s1))
    | (go_at_call 179; exact Calls.regrown_of (zEnd _ _ _ c0 c1 t0 t1))))
  refine wpQuiet_nil ?_
  intro _ hw'
  obtain ⟨⟨dq, osq⟩, hw''⟩ := hw'
  subst hw''
  go_wp2_with fail
  all_goals
    go_ret
    refine ⟨ret_bool ?_, trG (trA (trA (tr0 w) _) _) _ _⟩
    unfold meetB
    rw [decide_eq_decide]
    clear hg hf
    (repeat' split) <;> omega
theorem meet_swap (b s c t : Int) : meetB c t b s = meetB b s c t := by
  unfold meetB
  rw [decide_eq_decide]
  split <;> split <;> split <;> split <;> omega
theorem meet_ref (b s c t : Int) (s0 : 0 ≤ s) (t0 : 0 ≤ t) : (decide (0 < s) && (decide (0 < t) && (hasB b s c || hasB c t b))) = meetB b s c t := by
  unfold meetB hasB
  rw [Bool.eq_iff_iff]
  simp only [Bool.and_eq_true, Bool.or_eq_true, decide_eq_true_eq]
  split <;> split <;> omega
end Go.Proofs.YtcgmnjajodegmaaGreat.B
