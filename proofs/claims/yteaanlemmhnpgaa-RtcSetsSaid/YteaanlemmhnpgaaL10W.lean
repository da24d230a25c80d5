/- RtcPlays, RtcLeft, RtcSets, of any arguments that fit. -/
import Derived.Test.YteaanlemmhnpgaaL10P
import Derived.Test.YteaanlemmhnpgaaL10L0
import Derived.Test.YteaanlemmhnpgaaL10S
namespace Go.Proofs.Yteaanlemmhnpgaa.B
set_option linter.unusedVariables false
set_option linter.unusedSimpArgs false
open Go.ChangeShapes Go.WideShapes Go.RowKit Go.Sort Go.MapKept
theorem fits_wact {w : World} {cs : List Value} (h : Fits w (.pair (.int .i64) (.pair (.int .u64) (.pair (.int .u32) (.pair (.int .u32) .unit)))) cs) :
    ∃ K n o v : Int, cs = [.int .i64 K, .int .u64 n, .int .u32 o, .int .u32 v] ∧ (-9223372036854775808 ≤ K ∧ K < 9223372036854775808) ∧ (0 ≤ n ∧ n < 18446744073709551616) ∧ (0 ≤ o ∧ o < 4294967296) ∧ (0 ≤ v ∧ v < 4294967296) := by
  obtain ⟨_, _, rfl, ⟨K, rfl, hK⟩, _, _, rfl, ⟨n, rfl, hn⟩, _, _, rfl, ⟨o, rfl, ho⟩, _, _, rfl, ⟨v, rfl, hv⟩, rfl⟩ := h
  have k1 := bounds_i64 hK
  have n1 := bounds_u64 hn
  have o1 := bounds_u32 ho
  have v1 := bounds_u32 hv
  exact ⟨K, n, o, v, rfl, by omega, by omega, by omega, by omega⟩
theorem acts_fit {w : World} {x : Value} (h : FitsV w (.slice (.pair (.int .i64) (.pair (.int .u64) (.pair (.int .u32) (.pair (.int .u32) .unit))))) x) :
    ∃ (y : Option Addr) (len cap : Nat), x = .slice y len cap ∧ (len = 0 ∨ ∃ b off, y = some ⟨b, off, none⟩ ∧ len ≤ cap ∧ cap ≤ maxLen ∧ b < w.heap.size ∧ ∀ i, i < cap → ∃ K n o v : Int, w.cell? ⟨b, off + i * 4, none⟩ = some (.int .i64 K) ∧ w.cell? ⟨b, off + i * 4 + 1, none⟩ = some (.int .u64 n) ∧ w.cell? ⟨b, off + i * 4 + 2, none⟩ = some (.int .u32 o) ∧ w.cell? ⟨b, off + i * 4 + 3, none⟩ = some (.int .u32 v) ∧
      (-9223372036854775808 ≤ K ∧ K < 9223372036854775808) ∧ (0 ≤ n ∧ n < 18446744073709551616) ∧ (0 ≤ o ∧ o < 4294967296) ∧ (0 ≤ v ∧ v < 4294967296)) := by
  obtain ⟨y, len, cap, rfl, hy⟩ := fits_slice h (by simp [Sh.size])
  refine ⟨y, len, cap, rfl, ?_⟩
  rcases hy with hy | ⟨b, off, rfl, hl, hm, hb, hz⟩
  · exact .inl hy
  refine .inr ⟨b, off, rfl, hl, hm, hb, fun i hi => ?_⟩
  obtain ⟨cs, hcl, hcell, hf⟩ := hz i hi
  obtain ⟨K, n, o, v, rfl, hK⟩ := fits_wact hf
  have e0 := hcell 0 (by simp [Sh.size])
  have e1 := hcell 1 (by simp [Sh.size])
  have e2 := hcell 2 (by simp [Sh.size])
  have e3 := hcell 3 (by simp [Sh.size])
  simp only [Sh.size] at e0 e1 e2 e3
  exact ⟨K, n, o, v, e0, e1, e2, e3, hK⟩
theorem wRtcPlays (v0 v1 : Value) (w : World) (h0 : FitsV w (.int .u32) v0) (h1 : FitsV w (.slice (.pair (.int .i64) (.pair (.int .u64) (.pair (.int .u32) (.pair (.int .u32) .unit))))) v1) :
    Calls Try.prog 3 #[v0, v1] w fun e w' => e = .returned (.bool true) ∧ Below w.heap.size w w' := by
  obtain ⟨d, rfl, d0, d1⟩ := fits_u32 h0
  obtain ⟨y, len, cap, rfl, hy⟩ := acts_fit h1
  have hd : d = 0 ∨ 1 ≤ d := by omega
  rcases hd with rfl | hd
  · exact rtcPlays0 w y len cap
  · exact rtcPlays1 w d hd d1 y len cap hy
theorem wRtcLeft (v0 v1 v2 v3 : Value) (w : World) (h0 : FitsV w (.int .u32) v0) (h1 : FitsV w (.slice (.pair (.int .i64) (.pair (.int .u64) (.pair (.int .u32) (.pair (.int .u32) .unit))))) v1) (h2 : FitsV w (.int .u64) v2) (h3 : FitsV w (.int .u64) v3) :
    Calls Try.prog 4 #[v0, v1, v2, v3] w fun e w' => e = .returned (.bool true) ∧ Below w.heap.size w w' := by
  obtain ⟨d, rfl, d0, d1⟩ := fits_u32 h0
  obtain ⟨y, len, cap, rfl, hy⟩ := acts_fit h1
  obtain ⟨a, rfl, a0, a1⟩ := fits_u64 h2
  obtain ⟨b, rfl, b0, b1⟩ := fits_u64 h3
  have hd : d = 0 ∨ 1 ≤ d := by omega
  rcases hd with rfl | hd
  · exact rtcLeft0 w a b a0 a1 b0 b1 y len cap hy
  · exact rtcLeft1 w d hd d1 a b a0 a1 b0 b1 y len cap hy
theorem wRtcSets (v0 v1 v2 v3 v4 : Value) (w : World) (h0 : FitsV w (.int .u32) v0) (h1 : FitsV w (.int .u64) v1) (h2 : FitsV w (.int .u64) v2) (h3 : FitsV w .bool v3) (h4 : FitsV w (.int .u64) v4) :
    Calls Try.prog 5 #[v0, v1, v2, v3, v4] w fun e w' => e = .returned (.bool true) ∧ Below w.heap.size w w' := by
  obtain ⟨d, rfl, d0, d1⟩ := fits_u32 h0
  obtain ⟨s, rfl, s0, s1⟩ := fits_u64 h1
  obtain ⟨a, rfl, a0, a1⟩ := fits_u64 h2
  obtain ⟨u, rfl⟩ := fits_bool h3
  obtain ⟨n, rfl, n0, n1⟩ := fits_u64 h4
  exact rtcSets w d s a n u d0 d1 s0 s1 a0 a1 n0 n1
end Go.Proofs.Yteaanlemmhnpgaa.B
