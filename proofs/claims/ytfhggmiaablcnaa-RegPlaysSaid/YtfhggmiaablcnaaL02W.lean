/- RegPlays, of any arguments that fit. -/
import Derived.Test.YtfhggmiaablcnaaL02P
import Derived.Test.YtfhggmiaablcnaaSrtS
import Derived.Test.YtfhggmiaablcnaaSrtN
import Derived.Test.YtfhggmiaablcnaaFits
namespace Go.Proofs.Ytfhggmiaablcnaa.B
set_option linter.unusedVariables false
set_option linter.unusedSimpArgs false
open Go.ChangeShapes Go.WideShapes Go.RowKit Go.Sort
theorem fits_ract {w : World} {cs : List Value} (h : Fits w (.pair (.int .i64) (.pair (.int .u32) (.pair (.pair (.int .u32) (.pair (.int .u32) (.pair (.int .u32) (.pair (.int .u32) .unit)))) (.pair (.int .u32) (.pair (.int .u32) .unit))))) cs) :
    ∃ (K o : Int) (r : Rg) (x z : Int), cs = [.int .i64 K, .int .u32 o, .int .u32 r.v, .int .u32 r.s, .int .u32 r.r, .int .u32 r.c, .int .u32 x, .int .u32 z] ∧ (-9223372036854775808 ≤ K ∧ K < 9223372036854775808) ∧ (0 ≤ o ∧ o < 4294967296) ∧ r.wf ∧ (0 ≤ x ∧ x < 4294967296) ∧ (0 ≤ z ∧ z < 4294967296) := by
  obtain ⟨_, _, rfl, ⟨K, rfl, hK⟩, _, _, rfl, ⟨o, rfl, ho⟩, _, _, rfl, ⟨_, _, rfl, ⟨a, rfl, ha⟩, _, _, rfl, ⟨b, rfl, hb⟩, _, _, rfl, ⟨c, rfl, hc⟩, _, _, rfl, ⟨d, rfl, hd⟩, rfl⟩, _, _, rfl, ⟨x, rfl, hx⟩, _, _, rfl, ⟨z, rfl, hz⟩, rfl⟩ := h
  have k1 := bounds_i64 hK
  have o1 := bounds_u32 ho
  have a1 := bounds_u32 ha
  have b1 := bounds_u32 hb
  have c1 := bounds_u32 hc
  have d1 := bounds_u32 hd
  have x1 := bounds_u32 hx
  have z1 := bounds_u32 hz
  exact ⟨K, o, ⟨a, b, c, d⟩, x, z, rfl, by omega, by omega, ⟨show 0 ≤ a ∧ a < 4294967296 by omega, show 0 ≤ b ∧ b < 4294967296 by omega, show 0 ≤ c ∧ c < 4294967296 by omega, show 0 ≤ d ∧ d < 4294967296 by omega⟩, by omega, by omega⟩
theorem racts_fit {w : World} {x : Value} (h : FitsV w (.slice (.pair (.int .i64) (.pair (.int .u32) (.pair (.pair (.int .u32) (.pair (.int .u32) (.pair (.int .u32) (.pair (.int .u32) .unit)))) (.pair (.int .u32) (.pair (.int .u32) .unit)))))) x) :
    ∃ (y : Option Addr) (len cap : Nat), x = .slice y len cap ∧ RActsIn w y len cap := by
  obtain ⟨y, len, cap, rfl, hy⟩ := fits_slice h (by simp [Sh.size])
  refine ⟨y, len, cap, rfl, ?_⟩
  rcases hy with hy | ⟨b, off, rfl, hl, hm, hb, hz⟩
  · exact .inl hy
  refine .inr ⟨b, off, rfl, hl, hm, hb, fun i hi => ?_⟩
  obtain ⟨cs, hcl, hcell, hf⟩ := hz i hi
  obtain ⟨K, o, r, x, z, rfl, hK⟩ := fits_ract hf
  have e0 := hcell 0 (by simp [Sh.size])
  have e1 := hcell 1 (by simp [Sh.size])
  have e2 := hcell 2 (by simp [Sh.size])
  have e3 := hcell 3 (by simp [Sh.size])
  have e4 := hcell 4 (by simp [Sh.size])
  have e5 := hcell 5 (by simp [Sh.size])
  have e6 := hcell 6 (by simp [Sh.size])
  have e7 := hcell 7 (by simp [Sh.size])
  simp only [Sh.size] at e0 e1 e2 e3 e4 e5 e6 e7
  exact ⟨K, o, r, x, z, e0, e1, e2, e3, e4, e5, e6, e7, hK⟩
theorem wRegPlays (v0 : Value) (w : World) (h0 : FitsV w (.slice (.pair (.int .i64) (.pair (.int .u32) (.pair (.pair (.int .u32) (.pair (.int .u32) (.pair (.int .u32) (.pair (.int .u32) .unit)))) (.pair (.int .u32) (.pair (.int .u32) .unit)))))) v0) :
    Calls Try.prog 3 #[v0] w fun e w' => e = .returned (.bool true) ∧ Below w.heap.size w w' := by
  obtain ⟨y, len, cap, rfl, hy⟩ := racts_fit h0
  exact regPlays sort_said sort_nil w y len cap hy
end Go.Proofs.Ytfhggmiaablcnaa.B
