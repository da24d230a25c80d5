/- The law BankPlays: whatever a bank is asked. -/
import Derived.Test.YtijjapmdkalfaaaL07D
namespace Go.Proofs.Ytijjapmdkalfaaa.B
set_option linter.unusedVariables false
set_option linter.unusedSimpArgs false
open Go.ChangeShapes Go.WideShapes Go.RowKit Go.Sort Go.MapKept
/-- Acts as they come in. -/
def ActsIn (w : World) (y : Option Addr) (len cap : Nat) : Prop := len = 0 ∨ ∃ b off, y = some ⟨b, off, none⟩ ∧ len ≤ cap ∧ cap ≤ maxLen ∧ b < w.heap.size ∧ ∀ i, i < cap → ∃ K n o v : Int, w.cell? ⟨b, off + i * 4, none⟩ = some (.int .i64 K) ∧ w.cell? ⟨b, off + i * 4 + 1, none⟩ = some (.int .u64 n) ∧ w.cell? ⟨b, off + i * 4 + 2, none⟩ = some (.int .u32 o) ∧ w.cell? ⟨b, off + i * 4 + 3, none⟩ = some (.int .u32 v) ∧
      (-9223372036854775808 ≤ K ∧ K < 9223372036854775808) ∧ (0 ≤ n ∧ n < 18446744073709551616) ∧ (0 ≤ o ∧ o < 4294967296) ∧ (0 ≤ v ∧ v < 4294967296)
set_option maxRecDepth 100000 in
set_option maxHeartbeats 6400000 in
theorem bankPlaysYes (w : World) (n : Nat) (n0 : 1 ≤ n) (n8 : n ≤ 8) (y : Option Addr) (len cap : Nat) (hy : ActsIn w y len cap) :
    Calls Try.prog 3 #[.int .i64 n, .slice y len cap] w fun e w' => e = .returned (.bool true) ∧ Below w.heap.size w w' := by
  have HY := Lib.hid hy
  clear hy
  have hmk := mkRun n n8
  go_enter Try.func3, Try.ntmps3
  go_wp2_with fail
  refine (bNew n n0 n8 w).mono ?_
  rintro e w1 ⟨p, g, q, rfl, K0, hB, hp, hg, hq⟩
  have P0 : Pr (w1.alloc (zR n)) w.heap.size p g n q w1.heap.size n (fun _ => tz) := ⟨K0.below (trA (tr0 w1) _), rwMade n n8 w1, hp, hg, hq, n0⟩
  have B0 := trA hB (zR n)
  clear K0 hB hp hg hq
  go_upto_region 7 with (fail)
  generalize w1.alloc (zR n) = W at *
  generalize w1.heap.size = gm at *
  clear hmk
  go_wp2_with fail
  go_loopw [5, 7, 8] (fun l m i wr => ∃ (k p g : Nat) (q : Nat → Nat) (gm cap : Nat) (t : Nat → Tm), k ≤ len ∧ k ≤ 60 ∧ i = .int .i64 k ∧ l = .pointer (some ⟨p, 0, none⟩) ∧ m = .slice (some ⟨gm, 0, none⟩) n cap ∧ Pr wr w.heap.size p g n q gm cap t ∧ Below w.heap.size w wr) (fun l m i wr => len - (intOf i).toNat)
  case atStart => exact ⟨0, p, g, q, gm, n, _, by omega, by omega, rfl, rfl, rfl, P0, B0⟩
  case round =>
    clear P0 B0
    obtain ⟨k, p, g, q, gm, cp, t, hk, hkl, rfl, rfl, rfl, P, hB⟩ := hrel
    by_cases hlt : k < len ∧ k < 60
    · obtain ⟨hlt, hlm⟩ := hlt
      rcases HY.out with hy | ⟨b, off, rfl, hlc, hcm, hbl, hz⟩
      · omega
      unfold maxLen at hcm
      obtain ⟨K, N, o, v, c0, c1, c2, c3, ⟨k0, k1⟩, ⟨N0, N1⟩, ⟨o0, o1⟩, ⟨v0, v1⟩⟩ := hz k (by omega)
      rw [← hB.cell (p := ⟨b, _, none⟩) (by simpa using hbl)] at c0 c1 c2 c3
      clear hz
      have hsz := hB.size
      go_wp2_with fail
      refine (bDo P hsz K N o v N0 N1 o0 o1 v0 v1).mono ?_
      rintro e W2 ⟨p', g', q', gm', cap', t', rfl, P2, hb2⟩
      have B2 := hB.trans hb2
      clear P hB hb2 c0 c1 c2 c3 hsz
      go_wp2_with fail
      refine (bAlike P2.k P2.r).mono ?_
      rintro e W3 ⟨rfl, hb3⟩
      have P3 := P2.below hb3
      have B3 := tr B2 hb3
      clear P2 B2 hb3
      go_wp2_with fail
      go_roundw
      case rel => exact ⟨k + 1, p', g', q', gm', cap', t', by omega, by omega, by go_num, rfl, rfl, P3, B3⟩
      case measure => simp [intOf]; omega
    · clear P
      by_cases hlt2 : k < len
      all_goals
        go_wp2_with fail
        refine (bKnown _).mono ?_
        rintro e w1 ⟨rfl, hb1⟩
        go_wp2_with fail
        go_ret
        exact ⟨rfl, tr hB hb1⟩
theorem bankPlaysNo (w : World) (n : Int) (h : n < 1 ∨ 8 < n) (y : Option Addr) (len cap : Nat) :
    Calls Try.prog 3 #[.int .i64 n, .slice y len cap] w fun e w' => e = .returned (.bool true) ∧ Below w.heap.size w w' := by
  have C := bNewNo n h w
  by_cases h0 : n < 1
  · clear h
    go_enter Try.func3, Try.ntmps3
    go_wp2_with fail
    refine C.mono ?_
    rintro e w1 ⟨rfl, rfl⟩
    go_wp2_with fail
    refine (bKnown _).mono ?_
    rintro e w1 ⟨rfl, hb1⟩
    go_wp2_with fail
    go_ret
    exact ⟨rfl, hb1⟩
  · have h8 : 8 < n := by omega
    clear h
    go_enter Try.func3, Try.ntmps3
    go_wp2_with fail
    refine C.mono ?_
    rintro e w1 ⟨rfl, rfl⟩
    go_wp2_with fail
    refine (bKnown _).mono ?_
    rintro e w1 ⟨rfl, hb1⟩
    go_wp2_with fail
    go_ret
    exact ⟨rfl, hb1⟩
theorem bankPlays (w : World) (n : Int) (y : Option Addr) (len cap : Nat) (hy : ActsIn w y len cap) :
    Calls Try.prog 3 #[.int .i64 n, .slice y len cap] w fun e w' => e = .returned (.bool true) ∧ Below w.heap.size w w' := by
  by_cases h : 1 ≤ n ∧ n ≤ 8
  · obtain ⟨m, rfl⟩ := Int.eq_ofNat_of_zero_le (show 0 ≤ n by omega)
    exact bankPlaysYes w m (by omega) (by omega) y len cap hy
  · exact bankPlaysNo w n (by omega) y len cap
end Go.Proofs.Ytijjapmdkalfaaa.B
