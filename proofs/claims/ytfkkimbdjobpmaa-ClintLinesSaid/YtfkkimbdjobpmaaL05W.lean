/- ClintLines, ClintPlays, of any arguments that fit. -/
import Derived.Test.YtfkkimbdjobpmaaL05L
import Derived.Test.YtfkkimbdjobpmaaL05P
namespace Go.Proofs.Ytfkkimbdjobpmaa.B
set_option linter.unusedVariables false
set_option linter.unusedSimpArgs false
open Go.ChangeShapes Go.WideShapes Go.RowKit Go.Sort
theorem wClintLines (v0 v1 v2 v3 v4 v5 : Value) (w : World) (h0 : FitsV w (.int .i64) v0) (h1 : FitsV w (.int .i64) v1) (h2 : FitsV w (.int .u32) v2) (h3 : FitsV w (.int .u32) v3) (h4 : FitsV w .bool v4) (h5 : FitsV w (.slice (.int .u64)) v5) :
    Calls Try.prog 4 #[v0, v1, v2, v3, v4, v5] w fun e w' => e = .returned (.bool true) ∧ Below w.heap.size w w' := by
  obtain ⟨a, rfl, a0, a1⟩ := fits_i64 h0
  obtain ⟨h, rfl, h0, h1⟩ := fits_i64 h1
  obtain ⟨v, rfl, v0, v1⟩ := fits_u32 h2
  obtain ⟨u, rfl, u0, u1⟩ := fits_u32 h3
  obtain ⟨up, rfl⟩ := fits_bool h4
  obtain ⟨y, len, cap, rfl, hy⟩ := fits_ints h5
  exact clintLines w a h v u up y len cap a0 a1 h0 h1 v0 v1 u0 u1 hy
theorem clintPlaysBad (w : World) (N : Int) (y : Option Addr) (len cap : Nat) (h : N < 1 ∨ 8 < N) :
    Calls Try.prog 3 #[.int .i64 N, .slice y len cap] w fun e w' => e = .returned (.bool true) ∧ Below w.heap.size w w' := by
  have hn := cNewBad N w h
  rcases h with h | h
  all_goals
    go_enter Try.func3, Try.ntmps3
    go_wp2_with fail
    refine hn.mono ?_
    rintro e w' ⟨rfl, rfl⟩
    go_wp2_with fail
    refine (cKnown _).mono ?_
    rintro e w1 ⟨rfl, hb1⟩
    go_wp2_with fail
    go_ret
    exact ⟨rfl, hb1⟩
theorem fits_cact {w : World} {cs : List Value} (h : Fits w (.pair (.int .i64) (.pair (.int .u64) (.pair (.int .u32) (.pair (.int .u32) .unit)))) cs) :
    ∃ K n o v : Int, cs = [.int .i64 K, .int .u64 n, .int .u32 o, .int .u32 v] ∧ (-9223372036854775808 ≤ K ∧ K < 9223372036854775808) ∧ (0 ≤ n ∧ n < 18446744073709551616) ∧ (0 ≤ o ∧ o < 4294967296) ∧ (0 ≤ v ∧ v < 4294967296) := by
  obtain ⟨_, _, rfl, ⟨K, rfl, hK⟩, _, _, rfl, ⟨n, rfl, hn⟩, _, _, rfl, ⟨o, rfl, ho⟩, _, _, rfl, ⟨v, rfl, hv⟩, rfl⟩ := h
  have k1 := bounds_i64 hK
  have n1 := bounds_u64 hn
  have o1 := bounds_u32 ho
  have v1 := bounds_u32 hv
  exact ⟨K, n, o, v, rfl, by omega, by omega, by omega, by omega⟩
theorem wClintPlays (v0 v1 : Value) (w : World) (h0 : FitsV w (.int .i64) v0) (h1 : FitsV w (.slice (.pair (.int .i64) (.pair (.int .u64) (.pair (.int .u32) (.pair (.int .u32) .unit))))) v1) :
    Calls Try.prog 3 #[v0, v1] w fun e w' => e = .returned (.bool true) ∧ Below w.heap.size w w' := by
  obtain ⟨N, rfl, a0, a1⟩ := fits_i64 h0
  obtain ⟨y, len, cap, rfl, hy⟩ := fits_slice h1 (by simp [Sh.size])
  by_cases hN : 1 ≤ N ∧ N ≤ 8
  · obtain ⟨M, rfl⟩ := Int.eq_ofNat_of_zero_le (show 0 ≤ N by omega)
    refine clintPlays w M y len cap (by omega) (by omega) ?_
    rcases hy with hy | ⟨b, off, rfl, hl, hm, hb, hz⟩
    · exact .inl hy
    refine .inr ⟨b, off, rfl, hl, hm, hb, fun i hi => ?_⟩
    obtain ⟨cs, hcl, hcell, hf⟩ := hz i hi
    obtain ⟨K, n, o, v, rfl, hK⟩ := fits_cact hf
    have e0 := hcell 0 (by simp [Sh.size])
    have e1 := hcell 1 (by simp [Sh.size])
    have e2 := hcell 2 (by simp [Sh.size])
    have e3 := hcell 3 (by simp [Sh.size])
    simp only [Sh.size] at e0 e1 e2 e3
    exact ⟨K, n, o, v, e0, e1, e2, e3, hK⟩
  · exact clintPlaysBad w N y len cap (by omega)
end Go.Proofs.Ytfkkimbdjobpmaa.B
