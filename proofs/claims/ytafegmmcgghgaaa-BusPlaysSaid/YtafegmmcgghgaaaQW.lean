/- BusPlays, of any arguments that fit. -/
import Derived.Test.YtafegmmcgghgaaaZP
import Derived.Test.YtafegmmcgghgaaaSrtS
import Derived.Test.YtafegmmcgghgaaaSrtN
import Derived.Test.YtafegmmcgghgaaaZK
namespace Go.Proofs.Ytafegmmcgghgaaa.B
set_option linter.unusedVariables false
set_option linter.unusedSimpArgs false
open Go.ChangeShapes Go.WideShapes Go.RowKit Go.Sort
theorem fits_bact {w : World} {cs : List Value} (h : Fits w (.pair (.int .i64) (.pair (.pair (.int .u32) (.pair (.int .u32) .unit)) (.pair (.int .i64) (.pair (.int .u32) (.pair (.int .u32) (.pair (.pair (.int .u32) (.pair (.int .u32) (.pair (.int .u32) (.pair (.int .u32) .unit)))) .unit)))))) cs) :
    ∃ (K b s N a v : Int) (r : Rg), cs = [.int .i64 K, .int .u32 b, .int .u32 s, .int .i64 N, .int .u32 a, .int .u32 v, .int .u32 r.v, .int .u32 r.s, .int .u32 r.r, .int .u32 r.c] ∧ (-9223372036854775808 ≤ K ∧ K < 9223372036854775808) ∧ (0 ≤ b ∧ b < 4294967296) ∧ (0 ≤ s ∧ s < 4294967296) ∧ (0 ≤ a ∧ a < 4294967296) ∧ (0 ≤ v ∧ v < 4294967296) ∧ r.wf := by
  obtain ⟨_, _, rfl, ⟨K, rfl, hK⟩, _, _, rfl, ⟨_, _, rfl, ⟨b, rfl, hb⟩, _, _, rfl, ⟨s, rfl, hs⟩, rfl⟩, _, _, rfl, ⟨N, rfl, hN⟩, _, _, rfl, ⟨a, rfl, ha⟩, _, _, rfl, ⟨v, rfl, hv⟩, _, _, rfl, ⟨_, _, rfl, ⟨x1, rfl, h1⟩, _, _, rfl, ⟨x2, rfl, h2⟩, _, _, rfl, ⟨x3, rfl, h3⟩, _, _, rfl, ⟨x4, rfl, h4⟩, rfl⟩, rfl⟩ := h
  have k1 := bounds_i64 hK
  have b1 := bounds_u32 hb
  have s1 := bounds_u32 hs
  have a1 := bounds_u32 ha
  have v1 := bounds_u32 hv
  have g1 := bounds_u32 h1
  have g2 := bounds_u32 h2
  have g3 := bounds_u32 h3
  have g4 := bounds_u32 h4
  exact ⟨K, b, s, N, a, v, ⟨x1, x2, x3, x4⟩, rfl, by omega, by omega, by omega, by omega, by omega, ⟨show 0 ≤ x1 ∧ x1 < 4294967296 by omega, show 0 ≤ x2 ∧ x2 < 4294967296 by omega, show 0 ≤ x3 ∧ x3 < 4294967296 by omega, show 0 ≤ x4 ∧ x4 < 4294967296 by omega⟩⟩
theorem bacts_fit {w : World} {x : Value} (h : FitsV w (.slice (.pair (.int .i64) (.pair (.pair (.int .u32) (.pair (.int .u32) .unit)) (.pair (.int .i64) (.pair (.int .u32) (.pair (.int .u32) (.pair (.pair (.int .u32) (.pair (.int .u32) (.pair (.int .u32) (.pair (.int .u32) .unit)))) .unit))))))) x) :
    ∃ (y : Option Addr) (len cap : Nat), x = .slice y len cap ∧ BActsIn w y len cap := by
  obtain ⟨y, len, cap, rfl, hy⟩ := fits_slice h (by simp [Sh.size])
  refine ⟨y, len, cap, rfl, ?_⟩
  rcases hy with hy | ⟨b, off, rfl, hl, hm, hb, hz⟩
  · exact .inl hy
  refine .inr ⟨b, off, rfl, hl, hm, hb, fun i hi => ?_⟩
  obtain ⟨cs, hcl, hcell, hf⟩ := hz i hi
  obtain ⟨K, b, s, N, a, v, r, rfl, hK⟩ := fits_bact hf
  have e0 := hcell 0 (by simp [Sh.size])
  have e1 := hcell 1 (by simp [Sh.size])
  have e2 := hcell 2 (by simp [Sh.size])
  have e3 := hcell 3 (by simp [Sh.size])
  have e4 := hcell 4 (by simp [Sh.size])
  have e5 := hcell 5 (by simp [Sh.size])
  have e6 := hcell 6 (by simp [Sh.size])
  have e7 := hcell 7 (by simp [Sh.size])
  have e8 := hcell 8 (by simp [Sh.size])
  have e9 := hcell 9 (by simp [Sh.size])
  simp only [Sh.size] at e0 e1 e2 e3 e4 e5 e6 e7 e8 e9
  exact ⟨K, b, s, N, a, v, r, e0, e1, e2, e3, e4, e5, e6, e7, e8, e9, hK⟩
theorem wBusPlays (v0 : Value) (w : World) (h0 : FitsV w (.slice (.pair (.int .i64) (.pair (.pair (.int .u32) (.pair (.int .u32) .unit)) (.pair (.int .i64) (.pair (.int .u32) (.pair (.int .u32) (.pair (.pair (.int .u32) (.pair (.int .u32) (.pair (.int .u32) (.pair (.int .u32) .unit)))) .unit))))))) v0) :
    Calls Try.prog 4 #[v0] w fun e w' => e = .returned (.bool true) ∧ Below w.heap.size w w' := by
  obtain ⟨y, len, cap, rfl, hy⟩ := bacts_fit h0
  exact busPlays sort_said sort_nil w y len cap hy
end Go.Proofs.Ytafegmmcgghgaaa.B
