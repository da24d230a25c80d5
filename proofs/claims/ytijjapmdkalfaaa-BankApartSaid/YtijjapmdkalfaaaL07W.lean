/- BankPlays, BankLeft, BankApart, of any arguments that fit. -/
import Derived.Test.YtijjapmdkalfaaaL07B
namespace Go.Proofs.Ytijjapmdkalfaaa.B
set_option linter.unusedVariables false
set_option linter.unusedSimpArgs false
open Go.ChangeShapes Go.WideShapes Go.RowKit Go.Sort
theorem fits_bact {w : World} {cs : List Value} (h : Fits w (.pair (.int .i64) (.pair (.int .u64) (.pair (.int .u32) (.pair (.int .u32) .unit)))) cs) :
    ∃ K n o v : Int, cs = [.int .i64 K, .int .u64 n, .int .u32 o, .int .u32 v] ∧ (-9223372036854775808 ≤ K ∧ K < 9223372036854775808) ∧ (0 ≤ n ∧ n < 18446744073709551616) ∧ (0 ≤ o ∧ o < 4294967296) ∧ (0 ≤ v ∧ v < 4294967296) := by
  obtain ⟨_, _, rfl, ⟨K, rfl, hK⟩, _, _, rfl, ⟨n, rfl, hn⟩, _, _, rfl, ⟨o, rfl, ho⟩, _, _, rfl, ⟨v, rfl, hv⟩, rfl⟩ := h
  have k1 := bounds_i64 hK
  have n1 := bounds_u64 hn
  have o1 := bounds_u32 ho
  have v1 := bounds_u32 hv
  exact ⟨K, n, o, v, rfl, by omega, by omega, by omega, by omega⟩
theorem bacts_fit {w : World} {x : Value} (h : FitsV w (.slice (.pair (.int .i64) (.pair (.int .u64) (.pair (.int .u32) (.pair (.int .u32) .unit))))) x) :
    ∃ (y : Option Addr) (len cap : Nat), x = .slice y len cap ∧ ActsIn w y len cap := by
  obtain ⟨y, len, cap, rfl, hy⟩ := fits_slice h (by simp [Sh.size])
  refine ⟨y, len, cap, rfl, ?_⟩
  rcases hy with hy | ⟨b, off, rfl, hl, hm, hb, hz⟩
  · exact .inl hy
  refine .inr ⟨b, off, rfl, hl, hm, hb, fun i hi => ?_⟩
  obtain ⟨cs, hcl, hcell, hf⟩ := hz i hi
  obtain ⟨K, n, o, v, rfl, hK⟩ := fits_bact hf
  have e0 := hcell 0 (by simp [Sh.size])
  have e1 := hcell 1 (by simp [Sh.size])
  have e2 := hcell 2 (by simp [Sh.size])
  have e3 := hcell 3 (by simp [Sh.size])
  simp only [Sh.size] at e0 e1 e2 e3
  exact ⟨K, n, o, v, e0, e1, e2, e3, hK⟩
theorem wBankPlays (v0 v1 : Value) (w : World) (h0 : FitsV w (.int .i64) v0) (h1 : FitsV w (.slice (.pair (.int .i64) (.pair (.int .u64) (.pair (.int .u32) (.pair (.int .u32) .unit))))) v1) :
    Calls Try.prog 3 #[v0, v1] w fun e w' => e = .returned (.bool true) ∧ Below w.heap.size w w' := by
  obtain ⟨n, rfl, n0, n1⟩ := fits_i64 h0
  obtain ⟨y, len, cap, rfl, hy⟩ := bacts_fit h1
  exact bankPlays w n y len cap hy
theorem wBankLeft (v0 v1 : Value) (w : World) (h0 : FitsV w (.int .i64) v0) (h1 : FitsV w (.slice (.pair (.int .i64) (.pair (.int .u64) (.pair (.int .u32) (.pair (.int .u32) .unit))))) v1) :
    Calls Try.prog 4 #[v0, v1] w fun e w' => e = .returned (.bool true) ∧ Below w.heap.size w w' := by
  obtain ⟨n, rfl, n0, n1⟩ := fits_i64 h0
  obtain ⟨y, len, cap, rfl, hy⟩ := bacts_fit h1
  exact bankLeft w n n0 (by omega) y len cap hy
theorem wBankApart (v0 v1 v2 v3 : Value) (w : World) (h0 : FitsV w (.int .i64) v0) (h1 : FitsV w (.slice (.pair (.int .i64) (.pair (.int .u64) (.pair (.int .u32) (.pair (.int .u32) .unit))))) v1) (h2 : FitsV w (.int .u32) v2) (h3 : FitsV w (.int .u32) v3) :
    Calls Try.prog 5 #[v0, v1, v2, v3] w fun e w' => e = .returned (.bool true) ∧ Below w.heap.size w w' := by
  obtain ⟨n, rfl, n0, n1⟩ := fits_i64 h0
  obtain ⟨y, len, cap, rfl, hy⟩ := bacts_fit h1
  obtain ⟨o, rfl, o0, o1⟩ := fits_u32 h2
  obtain ⟨v, rfl, v0, v1⟩ := fits_u32 h3
  exact bankApart w n n0 (by omega) y len cap hy o v o0 o1 v0 v1
end Go.Proofs.Ytijjapmdkalfaaa.B
