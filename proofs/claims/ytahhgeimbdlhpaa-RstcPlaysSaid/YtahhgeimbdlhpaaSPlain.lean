/- Layer 9 in plain numbers: a controller: its cause, its last cause, its count, whether it is asked for a reset. No Go. -/
import Derived.Test.YtahhgeimbdlhpaaLPlain
namespace Go.Proofs.Ytahhgeimbdlhpaa.B
set_option linter.unusedVariables false
set_option linter.unusedSimpArgs false
/-- A controller. -/
structure Rs where
  ca : Int
  ct : Int
  la : Int
  qs : Bool
/-- Causes that are latched. -/
def isC (c : Int) : Prop := c = 2 ∨ c = 4 ∨ c = 8 ∨ c = 16
instance (c : Int) : Decidable (isC c) := by unfold isC; infer_instance
structure Rs.ok (t : Rs) : Prop where
  a0 : 0 ≤ t.ca
  a1 : t.ca < 4294967296
  c0 : 0 ≤ t.ct
  c1 : t.ct < 4294967296
  l0 : 1 ≤ t.la
  l1 : t.la < 17
def rs0 : Rs := ⟨0, 0, 0, false⟩
def rsN : Rs := ⟨1, 0, 1, false⟩
theorem rsN_ok : rsN.ok := ⟨by decide, by decide, by decide, by decide, by decide, by decide⟩
def up1 (n : Int) : Int := if n < 4294967295 then n + 1 else n
theorem up1_bounds (n : Int) (n0 : 0 ≤ n) (n1 : n < 4294967296) : 0 ≤ up1 n ∧ up1 n < 4294967296 := by unfold up1; split <;> omega
def Rs.put (t : Rs) (c : Int) : Rs := ⟨bits BinOp.or IntKind.u32 t.ca c, up1 t.ct, c, false⟩
def Rs.ltc (t : Rs) (c : Int) : Rs := if isC c then t.put c else t
theorem isC_bounds {c : Int} (h : isC c) : 1 ≤ c ∧ c < 17 := by unfold isC at h; omega
theorem Rs.put_ok {t : Rs} (h : t.ok) {c : Int} (hc : isC c) : (t.put c).ok := by
  obtain ⟨c0, c1⟩ := isC_bounds hc
  obtain ⟨o0, o1⟩ := or_bounds t.ca c h.a0 h.a1 (by omega) (by omega)
  obtain ⟨u0, u1⟩ := up1_bounds t.ct h.c0 h.c1
  exact ⟨o0, o1, u0, u1, c0, c1⟩
theorem Rs.ltc_ok {t : Rs} (h : t.ok) (c : Int) : (t.ltc c).ok := by
  unfold Rs.ltc
  split
  · exact Rs.put_ok h (by assumption)
  · exact h
/-- Errors of an offset. -/
def sErr9 (o : Int) : Int := if o % 4 ≠ 0 then 11 else if 16 ≤ o then 10 else 0
def wErr9 (o : Int) : Int := if sErr9 o ≠ 0 then sErr9 o else if o = 4 ∨ o = 12 then 12 else 0
theorem sErr9_zero {o : Int} (o0 : 0 ≤ o) (h : sErr9 o = 0) : o = 0 ∨ o = 4 ∨ o = 8 ∨ o = 12 := by
  unfold sErr9 at h
  split at h
  · omega
  · split at h <;> omega
def Rs.val (t : Rs) (o : Int) : Int := if o = 0 then t.ca else if o = 4 then t.ct else if o = 12 then t.la else 0
def Rs.clr (t : Rs) (v : Int) : Rs := { t with ca := bits BinOp.andNot IntKind.u32 t.ca v }
def Rs.ask (t : Rs) (v : Int) : Rs := { t with qs := t.qs || (v == 45063) }
def Rs.sto (t : Rs) (o v : Int) : Rs := if o = 0 then t.clr v else if o = 8 then t.ask v else t
theorem Rs.clr_ok {t : Rs} (h : t.ok) {v : Int} (v0 : 0 ≤ v) (v1 : v < 4294967296) : (t.clr v).ok := by
  obtain ⟨b0, b1⟩ := andNot_bounds t.ca v h.a0 h.a1 v0 v1
  exact ⟨b0, b1, h.c0, h.c1, h.l0, h.l1⟩
theorem Rs.ask_ok {t : Rs} (h : t.ok) (v : Int) : (t.ask v).ok := ⟨h.a0, h.a1, h.c0, h.c1, h.l0, h.l1⟩
theorem Rs.sto_ok {t : Rs} (h : t.ok) {o v : Int} (v0 : 0 ≤ v) (v1 : v < 4294967296) : (t.sto o v).ok := by
  unfold Rs.sto
  split
  · exact Rs.clr_ok h v0 v1
  · split
    · exact Rs.ask_ok h v
    · exact h
/-- A single bit's word. -/
theorem bit_pow (k i : Nat) : bit ((2 ^ k : Nat) : Int) i = decide (i = k) := by
  rw [bit_testBit _ _ (Int.natCast_nonneg _), Int.toNat_natCast, Nat.testBit_two_pow]
  by_cases h : i = k
  · simp [h]
  · rw [decide_eq_false (fun e : k = i => h e.symm), decide_eq_false h]
theorem bit_or_pow (a : Int) (k i : Nat) (a0 : 0 ≤ a) (a1 : a < 4294967296) (hk : k < 32) : bit (bits BinOp.or IntKind.u32 a ((2 ^ k : Nat) : Int)) i = if i = k then true else bit a i := by
  have hp : 2 ^ k ≤ 2 ^ 31 := Nat.pow_le_pow_right (by decide) (by omega)
  rw [bit_or a _ i a0 a1 (Int.natCast_nonneg _) (by generalize 2 ^ k = x at *; omega), bit_pow]
  by_cases h : i = k
  · simp [h]
  · simp [h]
end Go.Proofs.Ytahhgeimbdlhpaa.B
