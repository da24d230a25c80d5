/- Arguments of layer 11's laws that fit: a configuration, acts. BoardPlays. -/
import Derived.Test.YtcgmnjajodegmaaGreatZPO
import Derived.Test.YtcgmnjajodegmaaGreatZPbs
namespace Go.Proofs.YtcgmnjajodegmaaGreat.B
set_option linter.unusedVariables false
set_option linter.unusedSimpArgs false
open Go.ChangeShapes Go.WideShapes Go.RowKit Go.Sort Go.MapKept
theorem fits_wact {w : World} {cs : List Value} (h : Fits w (.pair (.int .i64) (.pair (.int .u64) (.pair (.int .u32) (.pair (.int .u32) .unit)))) cs) :
 ∃ K n o v : Int, cs = [.int .i64 K, .int .u64 n, .int .u32 o, .int .u32 v] ∧ (-9223372036854775808 ≤ K ∧ K < 9223372036854775808) ∧ (0 ≤ n ∧ n < 18446744073709551616) ∧ (0 ≤ o ∧ o < 4294967296) ∧ (0 ≤ v ∧ v < 4294967296) := by
 obtain ⟨_, _, rfl, ⟨K, rfl, hK⟩, _, _, rfl, ⟨n, rfl, hn⟩, _, _, rfl, ⟨o, rfl, ho⟩, _, _, rfl, ⟨v, rfl, hv⟩, rfl⟩ := h
 have kt1 := bounds_i64 hK
 have n1 := bounds_u64 hn
 have o1 := bounds_u32 ho
 have v1 := bounds_u32 hv
 exact ⟨K, n, o, v, rfl, by omega, by omega, by omega, by omega⟩
theorem acts_fit {w : World} {x : Value} (h : FitsV w (.slice (.pair (.int .i64) (.pair (.int .u64) (.pair (.int .u32) (.pair (.int .u32) .unit))))) x) :
 ∃ (y : Option Addr) (len cap : Nat), x = .slice y len cap ∧ (len = 0 ∨ ∃ b off, y = some ⟨b, off, none⟩ ∧ len ≤ cap ∧ cap ≤ maxLen ∧ b < w.heap.size ∧ ∀ i, i < cap → ∃ K n o v : Int, w.cell? ⟨b, off + i * 4, none⟩ = some (.int .i64 K) ∧ w.cell? ⟨b, off + i * 4 + 1, none⟩ = some (.int .u64 n) ∧ w.cell? ⟨b, off + i * 4 + 2, none⟩ = some (.int .u32 o) ∧ w.cell? ⟨b, off + i * 4 + 3, none⟩ = some (.int .u32 v) ∧
  (-9223372036854775808 ≤ K ∧ K < 9223372036854775808) ∧ (0 ≤ n ∧ n < 18446744073709551616) ∧ (0 ≤ o ∧ o < 4294967296) ∧ (0 ≤ v ∧ v < 4294967296)) := by
 obtain ⟨y, len, cap, rfl, hy⟩ := fits_slice h (by simp [Sh.size])
 refine ⟨y, len, cap, rfl, ?_⟩
 rcases hy with hy | ⟨b, off, rfl, hl, hm, hb, hz⟩
 · exact .inl hy
 refine .inr ⟨b, off, rfl, hl, hm, hb, fun i hi => ?_⟩
 obtain ⟨cs, hcl, hcell, hf⟩ := hz i hi
 obtain ⟨K, n, o, v, rfl, hK⟩ := fits_wact hf
 have e0 := hcell 0 (by simp [Sh.size])
 have e1 := hcell 1 (by simp [Sh.size])
 have e2 := hcell 2 (by simp [Sh.size])
 have e3 := hcell 3 (by simp [Sh.size])
 simp only [Sh.size] at e0 e1 e2 e3
 exact ⟨K, n, o, v, e0, e1, e2, e3, hK⟩
theorem fits_cfg {w : World} {v : Value} (h : FitsV w (.pair (.int .i64) (.pair (.int .i64) (.pair (.int .u32) .unit))) v) :
 ∃ n c d : Int, v = .agg #[.int .i64 n, .int .i64 c, .int .u32 d] ∧ 0 ≤ d ∧ d < 4294967296 := by
 obtain ⟨l, rfl, _, _, rfl, ⟨n, rfl, hn⟩, _, _, rfl, ⟨c, rfl, hc⟩, _, _, rfl, ⟨d, rfl, hd⟩, rfl⟩ := h
 have d1 := bounds_u32 hd
 exact ⟨n, c, d, rfl, by omega, by omega⟩
theorem wBoardPlays (v0 v1 : Value) (w : World) (h0 : FitsV w (.pair (.int .i64) (.pair (.int .i64) (.pair (.int .u32) .unit))) v0) (h1 : FitsV w (.slice (.pair (.int .i64) (.pair (.int .u64) (.pair (.int .u32) (.pair (.int .u32) .unit))))) v1) :
 Calls Tryz.prog 3 #[v0, v1] w fun e w' => e = .returned (.bool true) ∧ Below w.heap.size w w' := by
 obtain ⟨n, c, d, rfl, d0, d1⟩ := fits_cfg h0
 obtain ⟨y, len, cap, rfl, hy⟩ := acts_fit h1
 by_cases hr : 1 ≤ n ∧ n ≤ 8 ∧ 1 ≤ c ∧ c ≤ 8 ∧ 0 < d
 · obtain ⟨n, rfl⟩ := Int.eq_ofNat_of_zero_le (show 0 ≤ n by omega)
   obtain ⟨c, rfl⟩ := Int.eq_ofNat_of_zero_le (show 0 ≤ c by omega)
   exact boardPlays1 w n c d (by omega) (by omega) (by omega) (by omega) (by omega) d1 y len cap hy
 · exact boardPlays0 w n c d d0 hr y len cap
end Go.Proofs.YtcgmnjajodegmaaGreat.B
