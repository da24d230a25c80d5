/- RstcPlays, RstcLast, of any arguments that fit. -/
import Derived.Test.YtahhgeimbdlhpaaL09P
import Derived.Test.YtahhgeimbdlhpaaL09L
namespace Go.Proofs.Ytahhgeimbdlhpaa.B
set_option linter.unusedVariables false
set_option linter.unusedSimpArgs false
open Go.ChangeShapes Go.WideShapes Go.RowKit Go.Sort
theorem fits_ract {w : World} {cs : List Value} (h : Fits w (.pair (.int .i64) (.pair (.int .i64) (.pair (.int .u32) (.pair (.int .u32) .unit)))) cs) :
    ∃ K n o v : Int, cs = [.int .i64 K, .int .i64 n, .int .u32 o, .int .u32 v] ∧ (-9223372036854775808 ≤ K ∧ K < 9223372036854775808) ∧ (-9223372036854775808 ≤ n ∧ n < 9223372036854775808) ∧ (0 ≤ o ∧ o < 4294967296) ∧ (0 ≤ v ∧ v < 4294967296) := by
  obtain ⟨_, _, rfl, ⟨K, rfl, hK⟩, _, _, rfl, ⟨n, rfl, hn⟩, _, _, rfl, ⟨o, rfl, ho⟩, _, _, rfl, ⟨v, rfl, hv⟩, rfl⟩ := h
  have k1 := bounds_i64 hK
  have n1 := bounds_i64 hn
  have o1 := bounds_u32 ho
  have v1 := bounds_u32 hv
  exact ⟨K, n, o, v, rfl, by omega, by omega, by omega, by omega⟩
theorem wRstcPlays (v0 : Value) (w : World) (h0 : FitsV w (.slice (.pair (.int .i64) (.pair (.int .i64) (.pair (.int .u32) (.pair (.int .u32) .unit))))) v0) :
    Calls Try.prog 3 #[v0] w fun e w' => e = .returned (.bool true) ∧ Below w.heap.size w w' := by
  obtain ⟨y, len, cap, rfl, hy⟩ := fits_slice h0 (by simp [Sh.size])
  refine rstcPlays w y len cap ?_
  rcases hy with hy | ⟨b, off, rfl, hl, hm, hb, hz⟩
  · exact .inl hy
  refine .inr ⟨b, off, rfl, hl, hm, hb, fun i hi => ?_⟩
  obtain ⟨cs, hcl, hcell, hf⟩ := hz i hi
  obtain ⟨K, n, o, v, rfl, hK⟩ := fits_ract hf
  have e0 := hcell 0 (by simp [Sh.size])
  have e1 := hcell 1 (by simp [Sh.size])
  have e2 := hcell 2 (by simp [Sh.size])
  have e3 := hcell 3 (by simp [Sh.size])
  simp only [Sh.size] at e0 e1 e2 e3
  exact ⟨K, n, o, v, e0, e1, e2, e3, hK⟩
theorem i64s_fit {w : World} {x : Value} (h : FitsV w (.slice (.int .i64)) x) :
    ∃ (y : Option Addr) (len cap : Nat), x = .slice y len cap ∧ (len = 0 ∨ ∃ z off, ∃ zs : Nat → Int, y = some ⟨z, off, none⟩ ∧ len ≤ cap ∧ cap ≤ maxLen ∧ z < w.heap.size ∧ ∀ i, i < cap → w.cell? ⟨z, off + i, none⟩ = some (.int .i64 (zs i)) ∧ -9223372036854775808 ≤ zs i ∧ zs i < 9223372036854775808) := by
  obtain ⟨y, len, cap, rfl, hy⟩ := fits_ints h
  refine ⟨y, len, cap, rfl, ?_⟩
  rcases hy with hy | ⟨b, off, zs, rfl, hl, hm, hb, hz⟩
  · exact .inl hy
  refine .inr ⟨b, off, zs, rfl, hl, hm, hb, fun i hi => ?_⟩
  have := bounds_i64 (hz i hi).2
  exact ⟨(hz i hi).1, by omega, by omega⟩
theorem wRstcLast (v0 v1 : Value) (w : World) (h0 : FitsV w (.slice (.int .i64)) v0) (h1 : FitsV w (.int .u32) v1) :
    Calls Try.prog 4 #[v0, v1] w fun e w' => e = .returned (.bool true) ∧ Below w.heap.size w w' := by
  obtain ⟨y, len, cap, rfl, hy⟩ := i64s_fit h0
  obtain ⟨v, rfl, v0, v1⟩ := fits_u32 h1
  exact rstcLast w y len cap v v0 v1 hy
end Go.Proofs.Ytahhgeimbdlhpaa.B
