/- The laws of layer 5: the chapter's example; ClintNil. -/
import Derived.Test.YtfkkimbdjobpmaaClintD
import Derived.Test.YtfkkimbdjobpmaaFits
import Derived.OpenShut
namespace Go.Proofs.Ytfkkimbdjobpmaa.B
set_option linter.unusedVariables false
set_option linter.unusedSimpArgs false
open Go.ChangeShapes Go.WideShapes Go.RowKit Go.Sort Go.MapKept
theorem cLn_at {t d : Int} {n k : Nat} {D : Nat → Int} (hn : k < n) (hd : D k = d) : cLn t n D (k : Int) = decide (d ≤ t) := by
  unfold cLn isHart
  rw [decide_eq_true (by omega), Bool.true_and, Int.toNat_natCast, hd]
theorem cStoreLow' (v t o : Int) (h n : Nat) (D S : Nat → Int) (p m : Nat) (w : World) (hc : CAt w p m t n D S) (hn : h < n) (v0 : 0 ≤ v) (v1 : v < 4294967296) (ho : o = 16384 + 8 * (h : Int)) :
    Calls Try.prog 14 #[.pointer (some ⟨p, 0, none⟩), .int .u32 o, .int .u32 v] w
      fun e w' => e = .returned (.int .i64 0) ∧ CAt w' p m t n (upd D h (join (hi (D h)) v)) S ∧ Off (· = p) w w' := by subst ho; exact cStoreLow v t h n D S p m w hc hn v0 v1
theorem cStoreHigh' (v t o : Int) (h n : Nat) (D S : Nat → Int) (p m : Nat) (w : World) (hc : CAt w p m t n D S) (hn : h < n) (v0 : 0 ≤ v) (v1 : v < 4294967296) (ho : o = 16384 + 8 * (h : Int) + 4) :
    Calls Try.prog 14 #[.pointer (some ⟨p, 0, none⟩), .int .u32 o, .int .u32 v] w
      fun e w' => e = .returned (.int .i64 0) ∧ CAt w' p m t n (upd D h (join v (lo (D h)))) S ∧ Off (· = p) w w' := by subst ho; exact cStoreHigh v t h n D S p m w hc hn v0 v1
theorem off_below {B p : Nat} {w a b : World} (h : Below B w a) (ho : Off (· = p) a b) (hp : B ≤ p) (hB : B ≤ w.heap.size) : Below B w b := Off.toBelow h ho (fun k hk e => by omega) hB
theorem clint_ne {w : World} {p m p2 m2 : Nat} {t t2 : Int} {N N2 : Nat} {D D2 S S2 : Nat → Int} (a : CAt w p m t N D S) (b : CAt w p2 m2 t2 N2 D2 S2) : m ≠ p2 := fun e => by
  obtain ⟨_, _, hb, _⟩ := a.map; rw [e, b.cell] at hb; cases hb
theorem kn4 : addS 0 3 = 3 := by decide
theorem kn5 : addS 3 1 = 4 := by decide
set_option maxHeartbeats 1600000 in
theorem cKnown (w : World) : Calls Try.prog 7 #[] w fun e w' => e = .returned (.bool true) ∧ Below w.heap.size w w' := by
  go_enter Try.func7, Try.ntmps7
  go_wp2_with fail
  refine (cNew 1 w (by omega) (by omega)).mono ?_
  rintro e w1 ⟨p, hp, rfl, C, hb⟩
  go_wp2_with fail
  refine (cStoreLow' 4 _ _ 0 1 _ _ _ _ _ C (by omega) (by omega) (by omega) rfl).mono ?_
  rintro e w2 ⟨rfl, C2, ho2⟩
  have hb2 := off_below hb ho2 hp (Nat.le_refl _)
  clear C hb ho2
  go_wp2_with fail
  refine (cStoreHigh' 0 _ _ 0 1 _ _ _ _ _ C2 (by omega) (by omega) (by omega) rfl).mono ?_
  rintro e w3 ⟨rfl, C3, ho3⟩
  have hb3 := off_below hb2 ho3 hp (Nat.le_refl _)
  clear C2 hb2 ho3
  obtain ⟨D, hD⟩ : ∃ D, upd (upd nvD 0 (join (hi (nvD 0)) 4)) 0 (join 0 (lo (upd nvD 0 (join (hi (nvD 0)) 4) 0))) = D := ⟨_, rfl⟩
  have h4 : D 0 = 4 := by rw [← hD]; decide
  rw [hD] at C3
  have L3 : cLn 3 1 D (0 : Int) = false := by have := cLn_at (t := 3) (n := 1) (k := 0) (by omega) h4; rw [show ((0 : Nat) : Int) = 0 from rfl] at this; rw [this]; decide
  have L4 : cLn 4 1 D (0 : Int) = true := by have := cLn_at (t := 4) (n := 1) (k := 0) (by omega) h4; rw [show ((0 : Nat) : Int) = 0 from rfl] at this; rw [this]; decide
  have H3 := Lib.hid L3
  have H4 := Lib.hid L4
  clear L3 L4 h4 hD
  go_wp2_with fail
  refine (cTick 3 _ _ _ _ _ _ _ C3 (by omega) (by omega)).mono ?_
  rw [kn4]
  rintro e w4 ⟨rfl, C4, ho4⟩
  have hb4 := off_below hb3 ho4 hp (Nat.le_refl _)
  clear C3 hb3 ho4
  go_wp2_with fail
  refine (cLine _ _ _ _ _ _ _ _ C4).mono ?_
  rw [H3.out]
  rintro e w5 ⟨rfl, hb5⟩
  have C5 := C4.below hb5
  have hb6 := tr hb4 hb5
  clear C4 hb4 hb5
  go_wp2_with fail
  refine (cTick 1 _ _ _ _ _ _ _ C5 (by omega) (by omega)).mono ?_
  rw [kn5]
  rintro e w7 ⟨rfl, C7, ho7⟩
  have hb7 := off_below hb6 ho7 hp (Nat.le_refl _)
  clear C5 hb6 ho7
  go_wp2_with fail
  refine (cLine _ _ _ _ _ _ _ _ C7).mono ?_
  rw [H4.out]
  rintro e w8 ⟨rfl, hb8⟩
  go_wp2_with fail
  go_ret
  exact ⟨rfl, tr hb7 hb8⟩
set_option maxRecDepth 100000 in
set_option maxHeartbeats 1600000 in
theorem wClintNil (v0 v1 v2 : Value) (w : World) (h0 : FitsV w (.int .u32) v0) (h1 : FitsV w (.int .u32) v1) (h2 : FitsV w (.int .u64) v2) :
    Calls Try.prog 5 #[v0, v1, v2] w fun e w' => e = .returned (.bool true) ∧ Below w.heap.size w w' := by
  obtain ⟨o, rfl, o0, o1⟩ := fits_u32 h0
  obtain ⟨v, rfl, v0, v1⟩ := fits_u32 h1
  obtain ⟨n, rfl, n0, n1⟩ := fits_u64 h2
  go_enter Try.func5, Try.ntmps5
  go_wp2_with fail
  refine (cTickNil _ _).mono ?_
  rintro e w' ⟨rfl, rfl⟩
  go_wp2_with fail
  refine (cResetNil _).mono ?_
  rintro e w' ⟨rfl, rfl⟩
  go_wp2_with fail
  refine (cLoadNil _ _).mono ?_
  rintro e w1 ⟨rfl, hb1⟩
  go_wp2_with fail
  refine (cKnown _).mono ?_
  rintro e w2 ⟨rfl, hb2⟩
  go_wp2_with fail
  refine (cHartsNil _).mono ?_
  rintro e w' ⟨rfl, rfl⟩
  go_wp2_with fail
  refine (cTimeNil _).mono ?_
  rintro e w' ⟨rfl, rfl⟩
  go_wp2_with fail
  refine (cCompareNil _ _).mono ?_
  rintro e w' ⟨rfl, rfl⟩
  go_wp2_with fail
  refine (cLineNil _ _).mono ?_
  rintro e w3 ⟨rfl, hb3⟩
  go_wp2_with fail
  refine (cSoftNil _ _).mono ?_
  rintro e w4 ⟨rfl, hb4⟩
  go_wp2_with fail
  refine (cStoreNil _ _ _).mono ?_
  rintro e w5 ⟨rfl, hb5⟩
  go_wp2_with fail
  refine (cCopyNil _).mono ?_
  rintro e w' ⟨rfl, rfl⟩
  go_wp2_with fail
  go_ret
  exact ⟨rfl, tr (tr (tr (tr hb1 hb2) hb3) hb4) hb5⟩
end Go.Proofs.Ytfkkimbdjobpmaa.B
