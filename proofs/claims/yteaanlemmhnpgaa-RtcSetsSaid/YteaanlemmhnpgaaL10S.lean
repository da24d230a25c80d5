/- The law RtcSets: seconds and alarms by two words. (Written by tools/gen_l10s.py.) -/
import Derived.Test.YteaanlemmhnpgaaL10
import Derived.Deep.Cut
namespace Go.Proofs.Yteaanlemmhnpgaa.B
set_option linter.unusedVariables false
set_option linter.unusedSimpArgs false
open Go.ChangeShapes Go.WideShapes Go.RowKit Go.Sort Go.MapKept
/-- Stores into a clock that is not enabled. -/
theorem sto_off {t : Rk} {o v : Int} (he : t.en = false) (ho : o = 8 ∨ o = 12 ∨ o = 16 ∨ o = 20) : t.sto o v = t.wr o v := by
  unfold Rk.sto
  rw [if_pos (by omega)]
  have hm : (t.wr o v).met = false := by
    unfold Rk.met
    rw [show (t.wr o v).en = t.en by rcases ho with rfl | rfl | rfl | rfl <;> rfl, he]; rfl
  exact behind_no hm
def kb (d s r x : Int) (al ah : Int) : Rk := ⟨d, r, x, s, al, ah, false, false⟩
theorem kb_ok {d s r x al ah : Int} (d0 : 1 ≤ d) (d1 : d < 4294967296) (r0 : 0 ≤ r) (r1 : r < d) (x0 : 0 ≤ x) (x1 : x < 4294967296) (s0 : 0 ≤ s) (s1 : s < 18446744073709551616) (l0 : 0 ≤ al) (l1 : al < 4294967296) (h0 : 0 ≤ ah) (h1 : ah < 4294967296) : (kb d s r x al ah).ok := ⟨d0, d1, r0, r1, x0, x1, s0, s1, l0, l1, h0, h1⟩
theorem kb_tick {d n : Int} (n0 : 0 ≤ n) : (rk0 d).tick n = kb d (min (0 + (0 + n) / d) nev) ((0 + n) % d) 0 0 0 := by
  unfold Rk.tick
  exact behind_no (by unfold Rk.met; rfl)
theorem kb_8 (d s r x al ah v : Int) : (kb d s r x al ah).sto 8 v = kb d s r v al ah := (sto_off rfl (by simp)).trans rfl
theorem kb_12 (d s r x al ah v : Int) : (kb d s r x al ah).sto 12 v = kb d (join v x) 0 x al ah := (sto_off rfl (by simp)).trans rfl
theorem kb_16 (d s r x al ah v : Int) : (kb d s r x al ah).sto 16 v = kb d s r x v ah := (sto_off rfl (by simp)).trans rfl
theorem kb_20 (d s r x al ah v : Int) : (kb d s r x al ah).sto 20 v = kb d s r x al v := (sto_off rfl (by simp)).trans rfl
/-- Enabled. -/
def kc (d s x al ah : Int) (b : Bool) : Rk := ⟨d, 0, x, s, al, ah, true, b⟩
theorem kb_24 (d s x al ah : Int) : (kb d s 0 x al ah).sto 24 1 = kc d s x al ah (decide (join ah al ≤ s)) := by
  unfold Rk.sto
  rw [if_pos (by simp)]
  have hw : (kb d s 0 x al ah).wr 24 1 = kc d s x al ah false := rfl
  rw [hw]
  unfold Rk.behind
  rw [show (kb d s 0 x al ah).met = false from rfl, show (kc d s x al ah false).met = decide (join ah al ≤ s) by unfold Rk.met; rfl]
  cases decide (join ah al ≤ s) <;> rfl
theorem kc_tick {d s x al ah : Int} (d0 : 1 ≤ d) (s1 : s ≤ nev) : (kc d s x al ah (decide (join ah al ≤ s))).tick d = kc d (min (s + 1) nev) x al ah (decide (join ah al ≤ min (s + 1) nev)) ∨ nev < join ah al := by
  have ha : (kc d s x al ah (decide (join ah al ≤ s))).adv d = kc d (min (s + 1) nev) x al ah (decide (join ah al ≤ s)) := by
    unfold Rk.adv
    show (⟨d, (0 + d) % d, x, min (s + (0 + d) / d) nev, al, ah, true, decide (join ah al ≤ s)⟩ : Rk) = _
    rw [Int.zero_add, Int.emod_self, Int.ediv_self (by omega)]; rfl
  by_cases hj : nev < join ah al
  · exact .inr hj
  left
  unfold Rk.tick
  rw [ha]
  unfold Rk.behind
  rw [show (kc d (min (s + 1) nev) x al ah (decide (join ah al ≤ s))).met = decide (join ah al ≤ min (s + 1) nev) by unfold Rk.met; rfl, show (kc d s x al ah (decide (join ah al ≤ s))).met = decide (join ah al ≤ s) by unfold Rk.met; rfl]
  by_cases h1 : join ah al ≤ s
  · have h2 : join ah al ≤ min (s + 1) nev := by omega
    rw [decide_eq_true h1, decide_eq_true h2]; rfl
  · rw [decide_eq_false h1]
    by_cases h2 : join ah al ≤ min (s + 1) nev
    · rw [decide_eq_true h2]; rfl
    · rw [decide_eq_false h2]; rfl
theorem split64 (a : Int) : join (a / 4294967296) (a % 4294967296) = a := by unfold join; omega
set_option maxRecDepth 100000 in
set_option maxHeartbeats 3200000 in
theorem rtcSets0f0 (w : World) (A n : Int) (a0 : 0 ≤ A) (a1 : A < 18446744073709551616) (n0 : 0 ≤ n) (n1 : n < 18446744073709551616) :
    Calls Try.prog 5 #[.int .u32 0, .int .u64 18446744073709551615, .int .u64 A, .bool false, .int .u64 n] w fun e w' => e = .returned (.bool true) ∧ Below w.heap.size w w' := by
  have d0 : (1 : Int) ≤ 1 := by omega
  have d1 : (1 : Int) < 4294967296 := by omega
  obtain ⟨N, hN⟩ : ∃ N, n % 1099511627776 = N := ⟨_, rfl⟩
  have N0 : 0 ≤ N := by omega
  have N1 : N < 18446744073709551616 := by omega
  have qa : (A / 4294967296) % 4294967296 = A / 4294967296 := by omega
  have ha := Lib.hid (split64 A)
  have x1 : 0 ≤ A % 4294967296 ∧ A % 4294967296 < 4294967296 := by omega
  have x2 : 0 ≤ A / 4294967296 ∧ A / 4294967296 < 4294967296 := by omega
  go_enter Try.func5, Try.ntmps5
  go_wp2_with fail
  refine (eNew 1 w d0 d1).mono ?_
  rintro e w1 ⟨rfl, rfl⟩
  have A0 := ea_new w tRtc (rk0 1)
  have B0 := trA (tr0 w) (oE tRtc (rk0 1))
  generalize w.alloc (oE tRtc (rk0 1)) = W at *
  have k0 := rk0_ok d0 d1
  have r0 : 0 ≤ (0 + N) % 1 := Int.emod_nonneg _ (by omega)
  have r1 : (0 + N) % 1 < 1 := Int.emod_lt_of_pos _ (by omega)
  have c0 : 0 ≤ min (0 + (0 + N) / 1) nev := by have := Int.ediv_nonneg (show 0 ≤ 0 + N by omega) (show 0 ≤ 1 by omega); unfold nev; omega
  have c1 : min (0 + (0 + N) / 1) nev < 18446744073709551616 := by unfold nev; omega
  go_upto_region 6 with (fail)
  rw [hN]
  clear hN
  go_wp2_with fail
  refine (eTick (rk0 1) N _ _ k0 A0 N0 N1).mono ?_
  rw [kb_tick N0]
  rintro e w12 ⟨rfl, a11, ho⟩
  have b13 := off_below B0 ho (Nat.le_refl _) (Nat.le_refl _)
  clear ho A0 B0
  generalize min (0 + (0 + N) / 1) nev = c at *
  generalize (0 + N) % 1 = r at *
  go_wp2_with fail
  refine (eStore (kb 1 c r 0 0 0) 8 (4294967295) _ _ (kb_ok d0 d1 r0 r1 (by omega) (by omega) c0 c1 (by omega) (by omega) (by omega) (by omega)) a11 (by omega) (by omega) (by omega) (by omega)).mono ?_
  rw [kb_8, show wErrT 8 = 0 from rfl]
  rintro e w15 ⟨rfl, a14, ho⟩
  have b16 := off_below b13 ho (Nat.le_refl _) (Nat.le_refl _)
  clear ho a11 b13
  go_wp2_with fail
  refine (eStore (kb 1 c r (4294967295) 0 0) 12 (4294967295) _ _ (kb_ok d0 d1 r0 r1 (by omega) (by omega) c0 c1 (by omega) (by omega) (by omega) (by omega)) a14 (by omega) (by omega) (by omega) (by omega)).mono ?_
  rw [kb_12, show wErrT 12 = 0 from rfl, show join 4294967295 4294967295 = 18446744073709551615 from rfl]
  rintro e w18 ⟨rfl, a17, ho⟩
  have b19 := off_below b16 ho (Nat.le_refl _) (Nat.le_refl _)
  clear ho a14 b16
  go_wp2_with fail
  refine (eSeconds (kb 1 18446744073709551615 0 (4294967295) 0 0) _ _ a17).mono ?_
  rintro e w21 ⟨rfl, hb⟩
  have a22 := a17.below hb
  have b23 := tr b19 hb
  clear hb a17 b19
  rw [show (kb 1 18446744073709551615 0 (4294967295) 0 0).sec = 18446744073709551615 from rfl]
  skip
  go_wp2_with fail
  refine (eRest (kb 1 18446744073709551615 0 (4294967295) 0 0) _ _ a22).mono ?_
  rintro e w25 ⟨rfl, hb⟩
  have a26 := a22.below hb
  have b27 := tr b23 hb
  clear hb a22 b23
  rw [show (kb 1 18446744073709551615 0 (4294967295) 0 0).rest = 0 from rfl]
  go_wp2_with fail
  refine (eStore (kb 1 18446744073709551615 0 (4294967295) 0 0) 16 (A % 4294967296) _ _ (kb_ok d0 d1 (Int.le_refl _) (by omega) (by omega) (by omega) (by omega) (by omega) (by omega) (by omega) (by omega) (by omega)) a26 (by omega) (by omega) (by omega) (by omega)).mono ?_
  rw [kb_16, show wErrT 16 = 0 from rfl]
  rintro e w29 ⟨rfl, a28, ho⟩
  have b30 := off_below b27 ho (Nat.le_refl _) (Nat.le_refl _)
  clear ho a26 b27
  go_wp2_with fail
  refine (eStore (kb 1 18446744073709551615 0 (4294967295) (A % 4294967296) 0) 20 (A / 4294967296) _ _ (kb_ok d0 d1 (Int.le_refl _) (by omega) (by omega) (by omega) (by omega) (by omega) (by omega) (by omega) (by omega) (by omega)) a28 (by omega) (by omega) (by omega) (by omega)).mono ?_
  rw [kb_20, show wErrT 20 = 0 from rfl]
  rintro e w32 ⟨rfl, a31, ho⟩
  have b33 := off_below b30 ho (Nat.le_refl _) (Nat.le_refl _)
  clear ho a28 b30
  go_wp2_with fail
  refine (eAlarm (kb 1 18446744073709551615 0 (4294967295) (A % 4294967296) (A / 4294967296)) _ _ a31).mono ?_
  rintro e w35 ⟨rfl, hb⟩
  have a36 := a31.below hb
  have b37 := tr b33 hb
  clear hb a31 b33
  rw [show (kb 1 18446744073709551615 0 (4294967295) (A % 4294967296) (A / 4294967296)).alarm = A from ha.out]
  have za : (A != A) = false := by simp
  go_wp2_with fail
  refine (eLine (kb 1 18446744073709551615 0 (4294967295) (A % 4294967296) (A / 4294967296)) _ _ a36).mono ?_
  rintro e w39 ⟨rfl, hb⟩
  have a40 := a36.below hb
  have b41 := tr b37 hb
  clear hb a36 b37
  rw [show (kb 1 18446744073709551615 0 (4294967295) (A % 4294967296) (A / 4294967296)).st = false from rfl]
  go_wp2_with fail
  refine (eStore (kb 1 18446744073709551615 0 (4294967295) (A % 4294967296) (A / 4294967296)) 24 1 _ _ (kb_ok d0 d1 (Int.le_refl _) (by omega) (by omega) (by omega) (by omega) (by omega) (by omega) (by omega) (by omega) (by omega)) a40 (by omega) (by omega) (by omega) (by omega)).mono ?_
  rw [kb_24, show wErrT 24 = 0 from rfl, ha.out, decide_eq_true (show A ≤ 18446744073709551615 by omega)]
  rintro e w43 ⟨rfl, a42, ho⟩
  have b44 := off_below b41 ho (Nat.le_refl _) (Nat.le_refl _)
  clear ho a40 b41
  go_wp2_with fail
  refine (eLine (kc 1 (18446744073709551615) (4294967295) (A % 4294967296) (A / 4294967296) true) _ _ a42).mono ?_
  rintro e w46 ⟨rfl, hb⟩
  have a47 := a42.below hb
  have b48 := tr b44 hb
  clear hb a42 b44
  rw [show (kc 1 (18446744073709551615) (4294967295) (A % 4294967296) (A / 4294967296) true).st = true from rfl]
  have hc : A ≤ 18446744073709551615 := by omega
  have KT : (kc 1 (18446744073709551615) (4294967295) (A % 4294967296) (A / 4294967296) true).tick 1 = kc 1 (18446744073709551615) (4294967295) (A % 4294967296) (A / 4294967296) true := by
    rcases kc_tick (d := 1) (s := 18446744073709551615) (x := 4294967295) (al := A % 4294967296) (ah := A / 4294967296) d0 (by unfold nev; omega) with h | h
    · rw [ha.out, decide_eq_true (show A ≤ 18446744073709551615 by omega), show min (18446744073709551615 + 1) nev = 18446744073709551615 by unfold nev; omega, decide_eq_true (show A ≤ 18446744073709551615 by omega)] at h; exact h
    · rw [ha.out] at h; unfold nev at h; omega
  go_wp2_with fail
  refine (eTick (kc 1 (18446744073709551615) (4294967295) (A % 4294967296) (A / 4294967296) true) 1 _ _ ⟨d0, d1, Int.le_refl _, (by show 0 < 1; omega), (by show 0 ≤ 4294967295; omega), (by show 4294967295 < 4294967296; omega), (by show 0 ≤ 18446744073709551615; omega), (by show 18446744073709551615 < 18446744073709551616; omega), x1.1, x1.2, x2.1, x2.2⟩ a47 (by omega) (by omega)).mono ?_
  rw [KT]
  rintro e w50 ⟨rfl, a49, ho⟩
  have b51 := off_below b48 ho (Nat.le_refl _) (Nat.le_refl _)
  clear ho a47 b48
  go_wp2_with fail
  refine (eKnown _).mono ?_
  rintro e w53 ⟨rfl, hb⟩
  have a54 := a49.below hb
  have b55 := tr b51 hb
  clear hb a49 b51
  clear KT
  go_wp2_with fail
  refine (eSeconds (kc 1 (18446744073709551615) (4294967295) (A % 4294967296) (A / 4294967296) true) _ _ a54).mono ?_
  rintro e w57 ⟨rfl, hb⟩
  have a58 := a54.below hb
  have b59 := tr b55 hb
  clear hb a54 b55
  rw [show (kc 1 (18446744073709551615) (4294967295) (A % 4294967296) (A / 4294967296) true).sec = 18446744073709551615 from rfl]
  go_wp2_with fail
  refine (eSeconds (kc 1 (18446744073709551615) (4294967295) (A % 4294967296) (A / 4294967296) true) _ _ a58).mono ?_
  rintro e w61 ⟨rfl, hb⟩
  have a62 := a58.below hb
  have b63 := tr b59 hb
  clear hb a58 b59
  rw [show (kc 1 (18446744073709551615) (4294967295) (A % 4294967296) (A / 4294967296) true).sec = 18446744073709551615 from rfl]
  go_wp2_with fail
  refine (eLine (kc 1 (18446744073709551615) (4294967295) (A % 4294967296) (A / 4294967296) true) _ _ a62).mono ?_
  rintro e w65 ⟨rfl, hb⟩
  have a66 := a62.below hb
  have b67 := tr b63 hb
  clear hb a62 b63
  rw [show (kc 1 (18446744073709551615) (4294967295) (A % 4294967296) (A / 4294967296) true).st = true from rfl]
  go_wp2_with fail
  refine (eSeconds (kc 1 (18446744073709551615) (4294967295) (A % 4294967296) (A / 4294967296) true) _ _ a66).mono ?_
  rintro e w69 ⟨rfl, hb⟩
  have a70 := a66.below hb
  have b71 := tr b67 hb
  clear hb a66 b67
  rw [show (kc 1 (18446744073709551615) (4294967295) (A % 4294967296) (A / 4294967296) true).sec = 18446744073709551615 from rfl]
  go_wp2_with fail
  go_ret
  exact ⟨rfl, b71⟩
set_option maxRecDepth 100000 in
set_option maxHeartbeats 3200000 in
theorem rtcSets0f1 (w : World) (A n : Int) (a0 : 0 ≤ A) (a1 : A < 18446744073709551616) (n0 : 0 ≤ n) (n1 : n < 18446744073709551616) (S : Int) (s0 : 0 ≤ S) (s1 : S < 18446744073709551615) (hc : A ≤ S) :
    Calls Try.prog 5 #[.int .u32 0, .int .u64 S, .int .u64 A, .bool false, .int .u64 n] w fun e w' => e = .returned (.bool true) ∧ Below w.heap.size w w' := by
  have d0 : (1 : Int) ≤ 1 := by omega
  have d1 : (1 : Int) < 4294967296 := by omega
  obtain ⟨N, hN⟩ : ∃ N, n % 1099511627776 = N := ⟨_, rfl⟩
  have N0 : 0 ≤ N := by omega
  have N1 : N < 18446744073709551616 := by omega
  have qa : (A / 4294967296) % 4294967296 = A / 4294967296 := by omega
  have ha := Lib.hid (split64 A)
  have x1 : 0 ≤ A % 4294967296 ∧ A % 4294967296 < 4294967296 := by omega
  have x2 : 0 ≤ A / 4294967296 ∧ A / 4294967296 < 4294967296 := by omega
  have hc2 : A ≤ S + 1 := by omega
  have qs : (S / 4294967296) % 4294967296 = S / 4294967296 := by omega
  have hs := Lib.hid (split64 S)
  have y1 : 0 ≤ S % 4294967296 ∧ S % 4294967296 < 4294967296 := by omega
  have y2 : 0 ≤ S / 4294967296 ∧ S / 4294967296 < 4294967296 := by omega
  go_enter Try.func5, Try.ntmps5
  go_wp2_with fail
  refine (eNew 1 w d0 d1).mono ?_
  rintro e w1 ⟨rfl, rfl⟩
  have A0 := ea_new w tRtc (rk0 1)
  have B0 := trA (tr0 w) (oE tRtc (rk0 1))
  generalize w.alloc (oE tRtc (rk0 1)) = W at *
  have k0 := rk0_ok d0 d1
  have r0 : 0 ≤ (0 + N) % 1 := Int.emod_nonneg _ (by omega)
  have r1 : (0 + N) % 1 < 1 := Int.emod_lt_of_pos _ (by omega)
  have c0 : 0 ≤ min (0 + (0 + N) / 1) nev := by have := Int.ediv_nonneg (show 0 ≤ 0 + N by omega) (show 0 ≤ 1 by omega); unfold nev; omega
  have c1 : min (0 + (0 + N) / 1) nev < 18446744073709551616 := by unfold nev; omega
  go_upto_region 6 with (fail)
  rw [hN]
  clear hN
  go_wp2_with fail
  refine (eTick (rk0 1) N _ _ k0 A0 N0 N1).mono ?_
  rw [kb_tick N0]
  rintro e w12 ⟨rfl, a11, ho⟩
  have b13 := off_below B0 ho (Nat.le_refl _) (Nat.le_refl _)
  clear ho A0 B0
  generalize min (0 + (0 + N) / 1) nev = c at *
  generalize (0 + N) % 1 = r at *
  go_wp2_with fail
  refine (eStore (kb 1 c r 0 0 0) 8 (S % 4294967296) _ _ (kb_ok d0 d1 r0 r1 (by omega) (by omega) c0 c1 (by omega) (by omega) (by omega) (by omega)) a11 (by omega) (by omega) (by omega) (by omega)).mono ?_
  rw [kb_8, show wErrT 8 = 0 from rfl]
  rintro e w15 ⟨rfl, a14, ho⟩
  have b16 := off_below b13 ho (Nat.le_refl _) (Nat.le_refl _)
  clear ho a11 b13
  go_wp2_with fail
  refine (eStore (kb 1 c r (S % 4294967296) 0 0) 12 (S / 4294967296) _ _ (kb_ok d0 d1 r0 r1 (by omega) (by omega) c0 c1 (by omega) (by omega) (by omega) (by omega)) a14 (by omega) (by omega) (by omega) (by omega)).mono ?_
  rw [kb_12, show wErrT 12 = 0 from rfl, hs.out]
  rintro e w18 ⟨rfl, a17, ho⟩
  have b19 := off_below b16 ho (Nat.le_refl _) (Nat.le_refl _)
  clear ho a14 b16
  go_wp2_with fail
  refine (eSeconds (kb 1 S 0 (S % 4294967296) 0 0) _ _ a17).mono ?_
  rintro e w21 ⟨rfl, hb⟩
  have a22 := a17.below hb
  have b23 := tr b19 hb
  clear hb a17 b19
  rw [show (kb 1 S 0 (S % 4294967296) 0 0).sec = S from rfl]
  have zs : (S != S) = false := by simp
  go_wp2_with fail
  refine (eRest (kb 1 S 0 (S % 4294967296) 0 0) _ _ a22).mono ?_
  rintro e w25 ⟨rfl, hb⟩
  have a26 := a22.below hb
  have b27 := tr b23 hb
  clear hb a22 b23
  rw [show (kb 1 S 0 (S % 4294967296) 0 0).rest = 0 from rfl]
  go_wp2_with fail
  refine (eStore (kb 1 S 0 (S % 4294967296) 0 0) 16 (A % 4294967296) _ _ (kb_ok d0 d1 (Int.le_refl _) (by omega) (by omega) (by omega) (by omega) (by omega) (by omega) (by omega) (by omega) (by omega)) a26 (by omega) (by omega) (by omega) (by omega)).mono ?_
  rw [kb_16, show wErrT 16 = 0 from rfl]
  rintro e w29 ⟨rfl, a28, ho⟩
  have b30 := off_below b27 ho (Nat.le_refl _) (Nat.le_refl _)
  clear ho a26 b27
  go_wp2_with fail
  refine (eStore (kb 1 S 0 (S % 4294967296) (A % 4294967296) 0) 20 (A / 4294967296) _ _ (kb_ok d0 d1 (Int.le_refl _) (by omega) (by omega) (by omega) (by omega) (by omega) (by omega) (by omega) (by omega) (by omega)) a28 (by omega) (by omega) (by omega) (by omega)).mono ?_
  rw [kb_20, show wErrT 20 = 0 from rfl]
  rintro e w32 ⟨rfl, a31, ho⟩
  have b33 := off_below b30 ho (Nat.le_refl _) (Nat.le_refl _)
  clear ho a28 b30
  go_wp2_with fail
  refine (eAlarm (kb 1 S 0 (S % 4294967296) (A % 4294967296) (A / 4294967296)) _ _ a31).mono ?_
  rintro e w35 ⟨rfl, hb⟩
  have a36 := a31.below hb
  have b37 := tr b33 hb
  clear hb a31 b33
  rw [show (kb 1 S 0 (S % 4294967296) (A % 4294967296) (A / 4294967296)).alarm = A from ha.out]
  have za : (A != A) = false := by simp
  go_wp2_with fail
  refine (eLine (kb 1 S 0 (S % 4294967296) (A % 4294967296) (A / 4294967296)) _ _ a36).mono ?_
  rintro e w39 ⟨rfl, hb⟩
  have a40 := a36.below hb
  have b41 := tr b37 hb
  clear hb a36 b37
  rw [show (kb 1 S 0 (S % 4294967296) (A % 4294967296) (A / 4294967296)).st = false from rfl]
  go_wp2_with fail
  refine (eStore (kb 1 S 0 (S % 4294967296) (A % 4294967296) (A / 4294967296)) 24 1 _ _ (kb_ok d0 d1 (Int.le_refl _) (by omega) (by omega) (by omega) (by omega) (by omega) (by omega) (by omega) (by omega) (by omega)) a40 (by omega) (by omega) (by omega) (by omega)).mono ?_
  rw [kb_24, show wErrT 24 = 0 from rfl, ha.out, decide_eq_true (show A ≤ S by omega)]
  rintro e w43 ⟨rfl, a42, ho⟩
  have b44 := off_below b41 ho (Nat.le_refl _) (Nat.le_refl _)
  clear ho a40 b41
  go_wp2_with fail
  refine (eLine (kc 1 (S) (S % 4294967296) (A % 4294967296) (A / 4294967296) true) _ _ a42).mono ?_
  rintro e w46 ⟨rfl, hb⟩
  have a47 := a42.below hb
  have b48 := tr b44 hb
  clear hb a42 b44
  rw [show (kc 1 (S) (S % 4294967296) (A % 4294967296) (A / 4294967296) true).st = true from rfl]
  have KT : (kc 1 (S) (S % 4294967296) (A % 4294967296) (A / 4294967296) true).tick 1 = kc 1 (S + 1) (S % 4294967296) (A % 4294967296) (A / 4294967296) true := by
    rcases kc_tick (d := 1) (s := S) (x := S % 4294967296) (al := A % 4294967296) (ah := A / 4294967296) d0 (by unfold nev; omega) with h | h
    · rw [ha.out, decide_eq_true (show A ≤ S by omega), show min (S + 1) nev = S + 1 by unfold nev; omega, decide_eq_true (show A ≤ S + 1 by omega)] at h; exact h
    · rw [ha.out] at h; unfold nev at h; omega
  go_wp2_with fail
  refine (eTick (kc 1 (S) (S % 4294967296) (A % 4294967296) (A / 4294967296) true) 1 _ _ ⟨d0, d1, Int.le_refl _, (by show 0 < 1; omega), (by show 0 ≤ S % 4294967296; omega), (by show S % 4294967296 < 4294967296; omega), (by show 0 ≤ S; omega), (by show S < 18446744073709551616; omega), x1.1, x1.2, x2.1, x2.2⟩ a47 (by omega) (by omega)).mono ?_
  rw [KT]
  rintro e w50 ⟨rfl, a49, ho⟩
  have b51 := off_below b48 ho (Nat.le_refl _) (Nat.le_refl _)
  clear ho a47 b48
  go_wp2_with fail
  refine (eKnown _).mono ?_
  rintro e w53 ⟨rfl, hb⟩
  have a54 := a49.below hb
  have b55 := tr b51 hb
  clear hb a49 b51
  clear KT
  go_wp2_with fail
  refine (eSeconds (kc 1 (S + 1) (S % 4294967296) (A % 4294967296) (A / 4294967296) true) _ _ a54).mono ?_
  rintro e w57 ⟨rfl, hb⟩
  have a58 := a54.below hb
  have b59 := tr b55 hb
  clear hb a54 b55
  rw [show (kc 1 (S + 1) (S % 4294967296) (A % 4294967296) (A / 4294967296) true).sec = S + 1 from rfl]
  have z1 : (S + 1 == S + 1) = true := by simp
  go_wp2_with fail
  refine (eLine (kc 1 (S + 1) (S % 4294967296) (A % 4294967296) (A / 4294967296) true) _ _ a58).mono ?_
  rintro e w61 ⟨rfl, hb⟩
  have a62 := a58.below hb
  have b63 := tr b59 hb
  clear hb a58 b59
  rw [show (kc 1 (S + 1) (S % 4294967296) (A % 4294967296) (A / 4294967296) true).st = true from rfl]
  go_wp2_with fail
  refine (eSeconds (kc 1 (S + 1) (S % 4294967296) (A % 4294967296) (A / 4294967296) true) _ _ a62).mono ?_
  rintro e w65 ⟨rfl, hb⟩
  have a66 := a62.below hb
  have b67 := tr b63 hb
  clear hb a62 b63
  rw [show (kc 1 (S + 1) (S % 4294967296) (A % 4294967296) (A / 4294967296) true).sec = S + 1 from rfl]
  go_wp2_with fail
  go_ret
  exact ⟨rfl, b67⟩
set_option maxRecDepth 100000 in
set_option maxHeartbeats 3200000 in
theorem rtcSets0f2 (w : World) (A n : Int) (a0 : 0 ≤ A) (a1 : A < 18446744073709551616) (n0 : 0 ≤ n) (n1 : n < 18446744073709551616) (S : Int) (s0 : 0 ≤ S) (s1 : S < 18446744073709551615) (hc : ¬ A ≤ S) (hc2 : A ≤ S + 1) :
    Calls Try.prog 5 #[.int .u32 0, .int .u64 S, .int .u64 A, .bool false, .int .u64 n] w fun e w' => e = .returned (.bool true) ∧ Below w.heap.size w w' := by
  have d0 : (1 : Int) ≤ 1 := by omega
  have d1 : (1 : Int) < 4294967296 := by omega
  obtain ⟨N, hN⟩ : ∃ N, n % 1099511627776 = N := ⟨_, rfl⟩
  have N0 : 0 ≤ N := by omega
  have N1 : N < 18446744073709551616 := by omega
  have qa : (A / 4294967296) % 4294967296 = A / 4294967296 := by omega
  have ha := Lib.hid (split64 A)
  have x1 : 0 ≤ A % 4294967296 ∧ A % 4294967296 < 4294967296 := by omega
  have x2 : 0 ≤ A / 4294967296 ∧ A / 4294967296 < 4294967296 := by omega
  have qs : (S / 4294967296) % 4294967296 = S / 4294967296 := by omega
  have hs := Lib.hid (split64 S)
  have y1 : 0 ≤ S % 4294967296 ∧ S % 4294967296 < 4294967296 := by omega
  have y2 : 0 ≤ S / 4294967296 ∧ S / 4294967296 < 4294967296 := by omega
  go_enter Try.func5, Try.ntmps5
  go_wp2_with fail
  refine (eNew 1 w d0 d1).mono ?_
  rintro e w1 ⟨rfl, rfl⟩
  have A0 := ea_new w tRtc (rk0 1)
  have B0 := trA (tr0 w) (oE tRtc (rk0 1))
  generalize w.alloc (oE tRtc (rk0 1)) = W at *
  have k0 := rk0_ok d0 d1
  have r0 : 0 ≤ (0 + N) % 1 := Int.emod_nonneg _ (by omega)
  have r1 : (0 + N) % 1 < 1 := Int.emod_lt_of_pos _ (by omega)
  have c0 : 0 ≤ min (0 + (0 + N) / 1) nev := by have := Int.ediv_nonneg (show 0 ≤ 0 + N by omega) (show 0 ≤ 1 by omega); unfold nev; omega
  have c1 : min (0 + (0 + N) / 1) nev < 18446744073709551616 := by unfold nev; omega
  go_upto_region 6 with (fail)
  rw [hN]
  clear hN
  go_wp2_with fail
  refine (eTick (rk0 1) N _ _ k0 A0 N0 N1).mono ?_
  rw [kb_tick N0]
  rintro e w12 ⟨rfl, a11, ho⟩
  have b13 := off_below B0 ho (Nat.le_refl _) (Nat.le_refl _)
  clear ho A0 B0
  generalize min (0 + (0 + N) / 1) nev = c at *
  generalize (0 + N) % 1 = r at *
  go_wp2_with fail
  refine (eStore (kb 1 c r 0 0 0) 8 (S % 4294967296) _ _ (kb_ok d0 d1 r0 r1 (by omega) (by omega) c0 c1 (by omega) (by omega) (by omega) (by omega)) a11 (by omega) (by omega) (by omega) (by omega)).mono ?_
  rw [kb_8, show wErrT 8 = 0 from rfl]
  rintro e w15 ⟨rfl, a14, ho⟩
  have b16 := off_below b13 ho (Nat.le_refl _) (Nat.le_refl _)
  clear ho a11 b13
  go_wp2_with fail
  refine (eStore (kb 1 c r (S % 4294967296) 0 0) 12 (S / 4294967296) _ _ (kb_ok d0 d1 r0 r1 (by omega) (by omega) c0 c1 (by omega) (by omega) (by omega) (by omega)) a14 (by omega) (by omega) (by omega) (by omega)).mono ?_
  rw [kb_12, show wErrT 12 = 0 from rfl, hs.out]
  rintro e w18 ⟨rfl, a17, ho⟩
  have b19 := off_below b16 ho (Nat.le_refl _) (Nat.le_refl _)
  clear ho a14 b16
  go_wp2_with fail
  refine (eSeconds (kb 1 S 0 (S % 4294967296) 0 0) _ _ a17).mono ?_
  rintro e w21 ⟨rfl, hb⟩
  have a22 := a17.below hb
  have b23 := tr b19 hb
  clear hb a17 b19
  rw [show (kb 1 S 0 (S % 4294967296) 0 0).sec = S from rfl]
  have zs : (S != S) = false := by simp
  go_wp2_with fail
  refine (eRest (kb 1 S 0 (S % 4294967296) 0 0) _ _ a22).mono ?_
  rintro e w25 ⟨rfl, hb⟩
  have a26 := a22.below hb
  have b27 := tr b23 hb
  clear hb a22 b23
  rw [show (kb 1 S 0 (S % 4294967296) 0 0).rest = 0 from rfl]
  go_wp2_with fail
  refine (eStore (kb 1 S 0 (S % 4294967296) 0 0) 16 (A % 4294967296) _ _ (kb_ok d0 d1 (Int.le_refl _) (by omega) (by omega) (by omega) (by omega) (by omega) (by omega) (by omega) (by omega) (by omega)) a26 (by omega) (by omega) (by omega) (by omega)).mono ?_
  rw [kb_16, show wErrT 16 = 0 from rfl]
  rintro e w29 ⟨rfl, a28, ho⟩
  have b30 := off_below b27 ho (Nat.le_refl _) (Nat.le_refl _)
  clear ho a26 b27
  go_wp2_with fail
  refine (eStore (kb 1 S 0 (S % 4294967296) (A % 4294967296) 0) 20 (A / 4294967296) _ _ (kb_ok d0 d1 (Int.le_refl _) (by omega) (by omega) (by omega) (by omega) (by omega) (by omega) (by omega) (by omega) (by omega)) a28 (by omega) (by omega) (by omega) (by omega)).mono ?_
  rw [kb_20, show wErrT 20 = 0 from rfl]
  rintro e w32 ⟨rfl, a31, ho⟩
  have b33 := off_below b30 ho (Nat.le_refl _) (Nat.le_refl _)
  clear ho a28 b30
  go_wp2_with fail
  refine (eAlarm (kb 1 S 0 (S % 4294967296) (A % 4294967296) (A / 4294967296)) _ _ a31).mono ?_
  rintro e w35 ⟨rfl, hb⟩
  have a36 := a31.below hb
  have b37 := tr b33 hb
  clear hb a31 b33
  rw [show (kb 1 S 0 (S % 4294967296) (A % 4294967296) (A / 4294967296)).alarm = A from ha.out]
  have za : (A != A) = false := by simp
  go_wp2_with fail
  refine (eLine (kb 1 S 0 (S % 4294967296) (A % 4294967296) (A / 4294967296)) _ _ a36).mono ?_
  rintro e w39 ⟨rfl, hb⟩
  have a40 := a36.below hb
  have b41 := tr b37 hb
  clear hb a36 b37
  rw [show (kb 1 S 0 (S % 4294967296) (A % 4294967296) (A / 4294967296)).st = false from rfl]
  go_wp2_with fail
  refine (eStore (kb 1 S 0 (S % 4294967296) (A % 4294967296) (A / 4294967296)) 24 1 _ _ (kb_ok d0 d1 (Int.le_refl _) (by omega) (by omega) (by omega) (by omega) (by omega) (by omega) (by omega) (by omega) (by omega)) a40 (by omega) (by omega) (by omega) (by omega)).mono ?_
  rw [kb_24, show wErrT 24 = 0 from rfl, ha.out, decide_eq_false (show ¬ A ≤ S by omega)]
  rintro e w43 ⟨rfl, a42, ho⟩
  have b44 := off_below b41 ho (Nat.le_refl _) (Nat.le_refl _)
  clear ho a40 b41
  go_wp2_with fail
  refine (eLine (kc 1 (S) (S % 4294967296) (A % 4294967296) (A / 4294967296) false) _ _ a42).mono ?_
  rintro e w46 ⟨rfl, hb⟩
  have a47 := a42.below hb
  have b48 := tr b44 hb
  clear hb a42 b44
  rw [show (kc 1 (S) (S % 4294967296) (A % 4294967296) (A / 4294967296) false).st = false from rfl]
  have KT : (kc 1 (S) (S % 4294967296) (A % 4294967296) (A / 4294967296) false).tick 1 = kc 1 (S + 1) (S % 4294967296) (A % 4294967296) (A / 4294967296) true := by
    rcases kc_tick (d := 1) (s := S) (x := S % 4294967296) (al := A % 4294967296) (ah := A / 4294967296) d0 (by unfold nev; omega) with h | h
    · rw [ha.out, decide_eq_false (show ¬ A ≤ S by omega), show min (S + 1) nev = S + 1 by unfold nev; omega, decide_eq_true (show A ≤ S + 1 by omega)] at h; exact h
    · rw [ha.out] at h; unfold nev at h; omega
  go_wp2_with fail
  refine (eTick (kc 1 (S) (S % 4294967296) (A % 4294967296) (A / 4294967296) false) 1 _ _ ⟨d0, d1, Int.le_refl _, (by show 0 < 1; omega), (by show 0 ≤ S % 4294967296; omega), (by show S % 4294967296 < 4294967296; omega), (by show 0 ≤ S; omega), (by show S < 18446744073709551616; omega), x1.1, x1.2, x2.1, x2.2⟩ a47 (by omega) (by omega)).mono ?_
  rw [KT]
  rintro e w50 ⟨rfl, a49, ho⟩
  have b51 := off_below b48 ho (Nat.le_refl _) (Nat.le_refl _)
  clear ho a47 b48
  go_wp2_with fail
  refine (eKnown _).mono ?_
  rintro e w53 ⟨rfl, hb⟩
  have a54 := a49.below hb
  have b55 := tr b51 hb
  clear hb a49 b51
  clear KT
  go_wp2_with fail
  refine (eSeconds (kc 1 (S + 1) (S % 4294967296) (A % 4294967296) (A / 4294967296) true) _ _ a54).mono ?_
  rintro e w57 ⟨rfl, hb⟩
  have a58 := a54.below hb
  have b59 := tr b55 hb
  clear hb a54 b55
  rw [show (kc 1 (S + 1) (S % 4294967296) (A % 4294967296) (A / 4294967296) true).sec = S + 1 from rfl]
  have z1 : (S + 1 == S + 1) = true := by simp
  go_wp2_with fail
  refine (eLine (kc 1 (S + 1) (S % 4294967296) (A % 4294967296) (A / 4294967296) true) _ _ a58).mono ?_
  rintro e w61 ⟨rfl, hb⟩
  have a62 := a58.below hb
  have b63 := tr b59 hb
  clear hb a58 b59
  rw [show (kc 1 (S + 1) (S % 4294967296) (A % 4294967296) (A / 4294967296) true).st = true from rfl]
  go_wp2_with fail
  refine (eSeconds (kc 1 (S + 1) (S % 4294967296) (A % 4294967296) (A / 4294967296) true) _ _ a62).mono ?_
  rintro e w65 ⟨rfl, hb⟩
  have a66 := a62.below hb
  have b67 := tr b63 hb
  clear hb a62 b63
  rw [show (kc 1 (S + 1) (S % 4294967296) (A % 4294967296) (A / 4294967296) true).sec = S + 1 from rfl]
  go_wp2_with fail
  go_ret
  exact ⟨rfl, b67⟩
set_option maxRecDepth 100000 in
set_option maxHeartbeats 3200000 in
theorem rtcSets0f3 (w : World) (A n : Int) (a0 : 0 ≤ A) (a1 : A < 18446744073709551616) (n0 : 0 ≤ n) (n1 : n < 18446744073709551616) (S : Int) (s0 : 0 ≤ S) (s1 : S < 18446744073709551615) (hc : ¬ A ≤ S) (hc2 : ¬ A ≤ S + 1) :
    Calls Try.prog 5 #[.int .u32 0, .int .u64 S, .int .u64 A, .bool false, .int .u64 n] w fun e w' => e = .returned (.bool true) ∧ Below w.heap.size w w' := by
  have d0 : (1 : Int) ≤ 1 := by omega
  have d1 : (1 : Int) < 4294967296 := by omega
  obtain ⟨N, hN⟩ : ∃ N, n % 1099511627776 = N := ⟨_, rfl⟩
  have N0 : 0 ≤ N := by omega
  have N1 : N < 18446744073709551616 := by omega
  have qa : (A / 4294967296) % 4294967296 = A / 4294967296 := by omega
  have ha := Lib.hid (split64 A)
  have x1 : 0 ≤ A % 4294967296 ∧ A % 4294967296 < 4294967296 := by omega
  have x2 : 0 ≤ A / 4294967296 ∧ A / 4294967296 < 4294967296 := by omega
  have qs : (S / 4294967296) % 4294967296 = S / 4294967296 := by omega
  have hs := Lib.hid (split64 S)
  have y1 : 0 ≤ S % 4294967296 ∧ S % 4294967296 < 4294967296 := by omega
  have y2 : 0 ≤ S / 4294967296 ∧ S / 4294967296 < 4294967296 := by omega
  go_enter Try.func5, Try.ntmps5
  go_wp2_with fail
  refine (eNew 1 w d0 d1).mono ?_
  rintro e w1 ⟨rfl, rfl⟩
  have A0 := ea_new w tRtc (rk0 1)
  have B0 := trA (tr0 w) (oE tRtc (rk0 1))
  generalize w.alloc (oE tRtc (rk0 1)) = W at *
  have k0 := rk0_ok d0 d1
  have r0 : 0 ≤ (0 + N) % 1 := Int.emod_nonneg _ (by omega)
  have r1 : (0 + N) % 1 < 1 := Int.emod_lt_of_pos _ (by omega)
  have c0 : 0 ≤ min (0 + (0 + N) / 1) nev := by have := Int.ediv_nonneg (show 0 ≤ 0 + N by omega) (show 0 ≤ 1 by omega); unfold nev; omega
  have c1 : min (0 + (0 + N) / 1) nev < 18446744073709551616 := by unfold nev; omega
  go_upto_region 6 with (fail)
  rw [hN]
  clear hN
  go_wp2_with fail
  refine (eTick (rk0 1) N _ _ k0 A0 N0 N1).mono ?_
  rw [kb_tick N0]
  rintro e w12 ⟨rfl, a11, ho⟩
  have b13 := off_below B0 ho (Nat.le_refl _) (Nat.le_refl _)
  clear ho A0 B0
  generalize min (0 + (0 + N) / 1) nev = c at *
  generalize (0 + N) % 1 = r at *
  go_wp2_with fail
  refine (eStore (kb 1 c r 0 0 0) 8 (S % 4294967296) _ _ (kb_ok d0 d1 r0 r1 (by omega) (by omega) c0 c1 (by omega) (by omega) (by omega) (by omega)) a11 (by omega) (by omega) (by omega) (by omega)).mono ?_
  rw [kb_8, show wErrT 8 = 0 from rfl]
  rintro e w15 ⟨rfl, a14, ho⟩
  have b16 := off_below b13 ho (Nat.le_refl _) (Nat.le_refl _)
  clear ho a11 b13
  go_wp2_with fail
  refine (eStore (kb 1 c r (S % 4294967296) 0 0) 12 (S / 4294967296) _ _ (kb_ok d0 d1 r0 r1 (by omega) (by omega) c0 c1 (by omega) (by omega) (by omega) (by omega)) a14 (by omega) (by omega) (by omega) (by omega)).mono ?_
  rw [kb_12, show wErrT 12 = 0 from rfl, hs.out]
  rintro e w18 ⟨rfl, a17, ho⟩
  have b19 := off_below b16 ho (Nat.le_refl _) (Nat.le_refl _)
  clear ho a14 b16
  go_wp2_with fail
  refine (eSeconds (kb 1 S 0 (S % 4294967296) 0 0) _ _ a17).mono ?_
  rintro e w21 ⟨rfl, hb⟩
  have a22 := a17.below hb
  have b23 := tr b19 hb
  clear hb a17 b19
  rw [show (kb 1 S 0 (S % 4294967296) 0 0).sec = S from rfl]
  have zs : (S != S) = false := by simp
  go_wp2_with fail
  refine (eRest (kb 1 S 0 (S % 4294967296) 0 0) _ _ a22).mono ?_
  rintro e w25 ⟨rfl, hb⟩
  have a26 := a22.below hb
  have b27 := tr b23 hb
  clear hb a22 b23
  rw [show (kb 1 S 0 (S % 4294967296) 0 0).rest = 0 from rfl]
  go_wp2_with fail
  refine (eStore (kb 1 S 0 (S % 4294967296) 0 0) 16 (A % 4294967296) _ _ (kb_ok d0 d1 (Int.le_refl _) (by omega) (by omega) (by omega) (by omega) (by omega) (by omega) (by omega) (by omega) (by omega)) a26 (by omega) (by omega) (by omega) (by omega)).mono ?_
  rw [kb_16, show wErrT 16 = 0 from rfl]
  rintro e w29 ⟨rfl, a28, ho⟩
  have b30 := off_below b27 ho (Nat.le_refl _) (Nat.le_refl _)
  clear ho a26 b27
  go_wp2_with fail
  refine (eStore (kb 1 S 0 (S % 4294967296) (A % 4294967296) 0) 20 (A / 4294967296) _ _ (kb_ok d0 d1 (Int.le_refl _) (by omega) (by omega) (by omega) (by omega) (by omega) (by omega) (by omega) (by omega) (by omega)) a28 (by omega) (by omega) (by omega) (by omega)).mono ?_
  rw [kb_20, show wErrT 20 = 0 from rfl]
  rintro e w32 ⟨rfl, a31, ho⟩
  have b33 := off_below b30 ho (Nat.le_refl _) (Nat.le_refl _)
  clear ho a28 b30
  go_wp2_with fail
  refine (eAlarm (kb 1 S 0 (S % 4294967296) (A % 4294967296) (A / 4294967296)) _ _ a31).mono ?_
  rintro e w35 ⟨rfl, hb⟩
  have a36 := a31.below hb
  have b37 := tr b33 hb
  clear hb a31 b33
  rw [show (kb 1 S 0 (S % 4294967296) (A % 4294967296) (A / 4294967296)).alarm = A from ha.out]
  have za : (A != A) = false := by simp
  go_wp2_with fail
  refine (eLine (kb 1 S 0 (S % 4294967296) (A % 4294967296) (A / 4294967296)) _ _ a36).mono ?_
  rintro e w39 ⟨rfl, hb⟩
  have a40 := a36.below hb
  have b41 := tr b37 hb
  clear hb a36 b37
  rw [show (kb 1 S 0 (S % 4294967296) (A % 4294967296) (A / 4294967296)).st = false from rfl]
  go_wp2_with fail
  refine (eStore (kb 1 S 0 (S % 4294967296) (A % 4294967296) (A / 4294967296)) 24 1 _ _ (kb_ok d0 d1 (Int.le_refl _) (by omega) (by omega) (by omega) (by omega) (by omega) (by omega) (by omega) (by omega) (by omega)) a40 (by omega) (by omega) (by omega) (by omega)).mono ?_
  rw [kb_24, show wErrT 24 = 0 from rfl, ha.out, decide_eq_false (show ¬ A ≤ S by omega)]
  rintro e w43 ⟨rfl, a42, ho⟩
  have b44 := off_below b41 ho (Nat.le_refl _) (Nat.le_refl _)
  clear ho a40 b41
  go_wp2_with fail
  refine (eLine (kc 1 (S) (S % 4294967296) (A % 4294967296) (A / 4294967296) false) _ _ a42).mono ?_
  rintro e w46 ⟨rfl, hb⟩
  have a47 := a42.below hb
  have b48 := tr b44 hb
  clear hb a42 b44
  rw [show (kc 1 (S) (S % 4294967296) (A % 4294967296) (A / 4294967296) false).st = false from rfl]
  have KT : (kc 1 (S) (S % 4294967296) (A % 4294967296) (A / 4294967296) false).tick 1 = kc 1 (S + 1) (S % 4294967296) (A % 4294967296) (A / 4294967296) false := by
    rcases kc_tick (d := 1) (s := S) (x := S % 4294967296) (al := A % 4294967296) (ah := A / 4294967296) d0 (by unfold nev; omega) with h | h
    · rw [ha.out, decide_eq_false (show ¬ A ≤ S by omega), show min (S + 1) nev = S + 1 by unfold nev; omega, decide_eq_false (show ¬ A ≤ S + 1 by omega)] at h; exact h
    · rw [ha.out] at h; unfold nev at h; omega
  go_wp2_with fail
  refine (eTick (kc 1 (S) (S % 4294967296) (A % 4294967296) (A / 4294967296) false) 1 _ _ ⟨d0, d1, Int.le_refl _, (by show 0 < 1; omega), (by show 0 ≤ S % 4294967296; omega), (by show S % 4294967296 < 4294967296; omega), (by show 0 ≤ S; omega), (by show S < 18446744073709551616; omega), x1.1, x1.2, x2.1, x2.2⟩ a47 (by omega) (by omega)).mono ?_
  rw [KT]
  rintro e w50 ⟨rfl, a49, ho⟩
  have b51 := off_below b48 ho (Nat.le_refl _) (Nat.le_refl _)
  clear ho a47 b48
  go_wp2_with fail
  refine (eKnown _).mono ?_
  rintro e w53 ⟨rfl, hb⟩
  have a54 := a49.below hb
  have b55 := tr b51 hb
  clear hb a49 b51
  clear KT
  go_wp2_with fail
  refine (eSeconds (kc 1 (S + 1) (S % 4294967296) (A % 4294967296) (A / 4294967296) false) _ _ a54).mono ?_
  rintro e w57 ⟨rfl, hb⟩
  have a58 := a54.below hb
  have b59 := tr b55 hb
  clear hb a54 b55
  rw [show (kc 1 (S + 1) (S % 4294967296) (A % 4294967296) (A / 4294967296) false).sec = S + 1 from rfl]
  have z1 : (S + 1 == S + 1) = true := by simp
  go_wp2_with fail
  refine (eLine (kc 1 (S + 1) (S % 4294967296) (A % 4294967296) (A / 4294967296) false) _ _ a58).mono ?_
  rintro e w61 ⟨rfl, hb⟩
  have a62 := a58.below hb
  have b63 := tr b59 hb
  clear hb a58 b59
  rw [show (kc 1 (S + 1) (S % 4294967296) (A % 4294967296) (A / 4294967296) false).st = false from rfl]
  go_wp2_with fail
  refine (eSeconds (kc 1 (S + 1) (S % 4294967296) (A % 4294967296) (A / 4294967296) false) _ _ a62).mono ?_
  rintro e w65 ⟨rfl, hb⟩
  have a66 := a62.below hb
  have b67 := tr b63 hb
  clear hb a62 b63
  rw [show (kc 1 (S + 1) (S % 4294967296) (A % 4294967296) (A / 4294967296) false).sec = S + 1 from rfl]
  go_wp2_with fail
  go_ret
  exact ⟨ret_bool (by simp; omega), b67⟩
set_option maxRecDepth 100000 in
set_option maxHeartbeats 3200000 in
theorem rtcSets0t0 (w : World) (A n : Int) (a0 : 0 ≤ A) (a1 : A < 18446744073709551616) (n0 : 0 ≤ n) (n1 : n < 18446744073709551616) :
    Calls Try.prog 5 #[.int .u32 0, .int .u64 18446744073709551615, .int .u64 A, .bool true, .int .u64 n] w fun e w' => e = .returned (.bool true) ∧ Below w.heap.size w w' := by
  have d0 : (1 : Int) ≤ 1 := by omega
  have d1 : (1 : Int) < 4294967296 := by omega
  obtain ⟨N, hN⟩ : ∃ N, n % 1099511627776 = N := ⟨_, rfl⟩
  have N0 : 0 ≤ N := by omega
  have N1 : N < 18446744073709551616 := by omega
  have qa : (A / 4294967296) % 4294967296 = A / 4294967296 := by omega
  have ha := Lib.hid (split64 A)
  have x1 : 0 ≤ A % 4294967296 ∧ A % 4294967296 < 4294967296 := by omega
  have x2 : 0 ≤ A / 4294967296 ∧ A / 4294967296 < 4294967296 := by omega
  go_enter Try.func5, Try.ntmps5
  go_wp2_with fail
  refine (eNew 1 w d0 d1).mono ?_
  rintro e w1 ⟨rfl, rfl⟩
  have A0 := ea_new w tRtc (rk0 1)
  have B0 := trA (tr0 w) (oE tRtc (rk0 1))
  generalize w.alloc (oE tRtc (rk0 1)) = W at *
  have k0 := rk0_ok d0 d1
  have r0 : 0 ≤ (0 + N) % 1 := Int.emod_nonneg _ (by omega)
  have r1 : (0 + N) % 1 < 1 := Int.emod_lt_of_pos _ (by omega)
  have c0 : 0 ≤ min (0 + (0 + N) / 1) nev := by have := Int.ediv_nonneg (show 0 ≤ 0 + N by omega) (show 0 ≤ 1 by omega); unfold nev; omega
  have c1 : min (0 + (0 + N) / 1) nev < 18446744073709551616 := by unfold nev; omega
  go_upto_region 6 with (fail)
  rw [hN]
  clear hN
  go_wp2_with fail
  refine (eTick (rk0 1) N _ _ k0 A0 N0 N1).mono ?_
  rw [kb_tick N0]
  rintro e w12 ⟨rfl, a11, ho⟩
  have b13 := off_below B0 ho (Nat.le_refl _) (Nat.le_refl _)
  clear ho A0 B0
  generalize min (0 + (0 + N) / 1) nev = c at *
  generalize (0 + N) % 1 = r at *
  go_wp2_with fail
  refine (eStore (kb 1 c r 0 0 0) 8 (4294967295) _ _ (kb_ok d0 d1 r0 r1 (by omega) (by omega) c0 c1 (by omega) (by omega) (by omega) (by omega)) a11 (by omega) (by omega) (by omega) (by omega)).mono ?_
  rw [kb_8, show wErrT 8 = 0 from rfl]
  rintro e w15 ⟨rfl, a14, ho⟩
  have b16 := off_below b13 ho (Nat.le_refl _) (Nat.le_refl _)
  clear ho a11 b13
  go_wp2_with fail
  refine (eStore (kb 1 c r (4294967295) 0 0) 12 (4294967295) _ _ (kb_ok d0 d1 r0 r1 (by omega) (by omega) c0 c1 (by omega) (by omega) (by omega) (by omega)) a14 (by omega) (by omega) (by omega) (by omega)).mono ?_
  rw [kb_12, show wErrT 12 = 0 from rfl, show join 4294967295 4294967295 = 18446744073709551615 from rfl]
  rintro e w18 ⟨rfl, a17, ho⟩
  have b19 := off_below b16 ho (Nat.le_refl _) (Nat.le_refl _)
  clear ho a14 b16
  go_wp2_with fail
  refine (eSeconds (kb 1 18446744073709551615 0 (4294967295) 0 0) _ _ a17).mono ?_
  rintro e w21 ⟨rfl, hb⟩
  have a22 := a17.below hb
  have b23 := tr b19 hb
  clear hb a17 b19
  rw [show (kb 1 18446744073709551615 0 (4294967295) 0 0).sec = 18446744073709551615 from rfl]
  skip
  go_wp2_with fail
  refine (eRest (kb 1 18446744073709551615 0 (4294967295) 0 0) _ _ a22).mono ?_
  rintro e w25 ⟨rfl, hb⟩
  have a26 := a22.below hb
  have b27 := tr b23 hb
  clear hb a22 b23
  rw [show (kb 1 18446744073709551615 0 (4294967295) 0 0).rest = 0 from rfl]
  go_wp2_with fail
  refine (eStore (kb 1 18446744073709551615 0 (4294967295) 0 0) 20 (A / 4294967296) _ _ (kb_ok d0 d1 (Int.le_refl _) (by omega) (by omega) (by omega) (by omega) (by omega) (by omega) (by omega) (by omega) (by omega)) a26 (by omega) (by omega) (by omega) (by omega)).mono ?_
  rw [kb_20, show wErrT 20 = 0 from rfl]
  rintro e w29 ⟨rfl, a28, ho⟩
  have b30 := off_below b27 ho (Nat.le_refl _) (Nat.le_refl _)
  clear ho a26 b27
  go_wp2_with fail
  refine (eStore (kb 1 18446744073709551615 0 (4294967295) 0 (A / 4294967296)) 16 (A % 4294967296) _ _ (kb_ok d0 d1 (Int.le_refl _) (by omega) (by omega) (by omega) (by omega) (by omega) (by omega) (by omega) (by omega) (by omega)) a28 (by omega) (by omega) (by omega) (by omega)).mono ?_
  rw [kb_16, show wErrT 16 = 0 from rfl]
  rintro e w32 ⟨rfl, a31, ho⟩
  have b33 := off_below b30 ho (Nat.le_refl _) (Nat.le_refl _)
  clear ho a28 b30
  go_wp2_with fail
  refine (eStore (kb 1 18446744073709551615 0 (4294967295) (A % 4294967296) (A / 4294967296)) 20 (A / 4294967296) _ _ (kb_ok d0 d1 (Int.le_refl _) (by omega) (by omega) (by omega) (by omega) (by omega) (by omega) (by omega) (by omega) (by omega)) a31 (by omega) (by omega) (by omega) (by omega)).mono ?_
  rw [kb_20, show wErrT 20 = 0 from rfl]
  rintro e w35 ⟨rfl, a34, ho⟩
  have b36 := off_below b33 ho (Nat.le_refl _) (Nat.le_refl _)
  clear ho a31 b33
  go_wp2_with fail
  refine (eAlarm (kb 1 18446744073709551615 0 (4294967295) (A % 4294967296) (A / 4294967296)) _ _ a34).mono ?_
  rintro e w38 ⟨rfl, hb⟩
  have a39 := a34.below hb
  have b40 := tr b36 hb
  clear hb a34 b36
  rw [show (kb 1 18446744073709551615 0 (4294967295) (A % 4294967296) (A / 4294967296)).alarm = A from ha.out]
  have za : (A != A) = false := by simp
  go_wp2_with fail
  refine (eLine (kb 1 18446744073709551615 0 (4294967295) (A % 4294967296) (A / 4294967296)) _ _ a39).mono ?_
  rintro e w42 ⟨rfl, hb⟩
  have a43 := a39.below hb
  have b44 := tr b40 hb
  clear hb a39 b40
  rw [show (kb 1 18446744073709551615 0 (4294967295) (A % 4294967296) (A / 4294967296)).st = false from rfl]
  go_wp2_with fail
  refine (eStore (kb 1 18446744073709551615 0 (4294967295) (A % 4294967296) (A / 4294967296)) 24 1 _ _ (kb_ok d0 d1 (Int.le_refl _) (by omega) (by omega) (by omega) (by omega) (by omega) (by omega) (by omega) (by omega) (by omega)) a43 (by omega) (by omega) (by omega) (by omega)).mono ?_
  rw [kb_24, show wErrT 24 = 0 from rfl, ha.out, decide_eq_true (show A ≤ 18446744073709551615 by omega)]
  rintro e w46 ⟨rfl, a45, ho⟩
  have b47 := off_below b44 ho (Nat.le_refl _) (Nat.le_refl _)
  clear ho a43 b44
  go_wp2_with fail
  refine (eLine (kc 1 (18446744073709551615) (4294967295) (A % 4294967296) (A / 4294967296) true) _ _ a45).mono ?_
  rintro e w49 ⟨rfl, hb⟩
  have a50 := a45.below hb
  have b51 := tr b47 hb
  clear hb a45 b47
  rw [show (kc 1 (18446744073709551615) (4294967295) (A % 4294967296) (A / 4294967296) true).st = true from rfl]
  have hc : A ≤ 18446744073709551615 := by omega
  have KT : (kc 1 (18446744073709551615) (4294967295) (A % 4294967296) (A / 4294967296) true).tick 1 = kc 1 (18446744073709551615) (4294967295) (A % 4294967296) (A / 4294967296) true := by
    rcases kc_tick (d := 1) (s := 18446744073709551615) (x := 4294967295) (al := A % 4294967296) (ah := A / 4294967296) d0 (by unfold nev; omega) with h | h
    · rw [ha.out, decide_eq_true (show A ≤ 18446744073709551615 by omega), show min (18446744073709551615 + 1) nev = 18446744073709551615 by unfold nev; omega, decide_eq_true (show A ≤ 18446744073709551615 by omega)] at h; exact h
    · rw [ha.out] at h; unfold nev at h; omega
  go_wp2_with fail
  refine (eTick (kc 1 (18446744073709551615) (4294967295) (A % 4294967296) (A / 4294967296) true) 1 _ _ ⟨d0, d1, Int.le_refl _, (by show 0 < 1; omega), (by show 0 ≤ 4294967295; omega), (by show 4294967295 < 4294967296; omega), (by show 0 ≤ 18446744073709551615; omega), (by show 18446744073709551615 < 18446744073709551616; omega), x1.1, x1.2, x2.1, x2.2⟩ a50 (by omega) (by omega)).mono ?_
  rw [KT]
  rintro e w53 ⟨rfl, a52, ho⟩
  have b54 := off_below b51 ho (Nat.le_refl _) (Nat.le_refl _)
  clear ho a50 b51
  go_wp2_with fail
  refine (eKnown _).mono ?_
  rintro e w56 ⟨rfl, hb⟩
  have a57 := a52.below hb
  have b58 := tr b54 hb
  clear hb a52 b54
  clear KT
  go_wp2_with fail
  refine (eSeconds (kc 1 (18446744073709551615) (4294967295) (A % 4294967296) (A / 4294967296) true) _ _ a57).mono ?_
  rintro e w60 ⟨rfl, hb⟩
  have a61 := a57.below hb
  have b62 := tr b58 hb
  clear hb a57 b58
  rw [show (kc 1 (18446744073709551615) (4294967295) (A % 4294967296) (A / 4294967296) true).sec = 18446744073709551615 from rfl]
  go_wp2_with fail
  refine (eSeconds (kc 1 (18446744073709551615) (4294967295) (A % 4294967296) (A / 4294967296) true) _ _ a61).mono ?_
  rintro e w64 ⟨rfl, hb⟩
  have a65 := a61.below hb
  have b66 := tr b62 hb
  clear hb a61 b62
  rw [show (kc 1 (18446744073709551615) (4294967295) (A % 4294967296) (A / 4294967296) true).sec = 18446744073709551615 from rfl]
  go_wp2_with fail
  refine (eLine (kc 1 (18446744073709551615) (4294967295) (A % 4294967296) (A / 4294967296) true) _ _ a65).mono ?_
  rintro e w68 ⟨rfl, hb⟩
  have a69 := a65.below hb
  have b70 := tr b66 hb
  clear hb a65 b66
  rw [show (kc 1 (18446744073709551615) (4294967295) (A % 4294967296) (A / 4294967296) true).st = true from rfl]
  go_wp2_with fail
  refine (eSeconds (kc 1 (18446744073709551615) (4294967295) (A % 4294967296) (A / 4294967296) true) _ _ a69).mono ?_
  rintro e w72 ⟨rfl, hb⟩
  have a73 := a69.below hb
  have b74 := tr b70 hb
  clear hb a69 b70
  rw [show (kc 1 (18446744073709551615) (4294967295) (A % 4294967296) (A / 4294967296) true).sec = 18446744073709551615 from rfl]
  go_wp2_with fail
  go_ret
  exact ⟨rfl, b74⟩
set_option maxRecDepth 100000 in
set_option maxHeartbeats 3200000 in
theorem rtcSets0t1 (w : World) (A n : Int) (a0 : 0 ≤ A) (a1 : A < 18446744073709551616) (n0 : 0 ≤ n) (n1 : n < 18446744073709551616) (S : Int) (s0 : 0 ≤ S) (s1 : S < 18446744073709551615) (hc : A ≤ S) :
    Calls Try.prog 5 #[.int .u32 0, .int .u64 S, .int .u64 A, .bool true, .int .u64 n] w fun e w' => e = .returned (.bool true) ∧ Below w.heap.size w w' := by
  have d0 : (1 : Int) ≤ 1 := by omega
  have d1 : (1 : Int) < 4294967296 := by omega
  obtain ⟨N, hN⟩ : ∃ N, n % 1099511627776 = N := ⟨_, rfl⟩
  have N0 : 0 ≤ N := by omega
  have N1 : N < 18446744073709551616 := by omega
  have qa : (A / 4294967296) % 4294967296 = A / 4294967296 := by omega
  have ha := Lib.hid (split64 A)
  have x1 : 0 ≤ A % 4294967296 ∧ A % 4294967296 < 4294967296 := by omega
  have x2 : 0 ≤ A / 4294967296 ∧ A / 4294967296 < 4294967296 := by omega
  have hc2 : A ≤ S + 1 := by omega
  have qs : (S / 4294967296) % 4294967296 = S / 4294967296 := by omega
  have hs := Lib.hid (split64 S)
  have y1 : 0 ≤ S % 4294967296 ∧ S % 4294967296 < 4294967296 := by omega
  have y2 : 0 ≤ S / 4294967296 ∧ S / 4294967296 < 4294967296 := by omega
  go_enter Try.func5, Try.ntmps5
  go_wp2_with fail
  refine (eNew 1 w d0 d1).mono ?_
  rintro e w1 ⟨rfl, rfl⟩
  have A0 := ea_new w tRtc (rk0 1)
  have B0 := trA (tr0 w) (oE tRtc (rk0 1))
  generalize w.alloc (oE tRtc (rk0 1)) = W at *
  have k0 := rk0_ok d0 d1
  have r0 : 0 ≤ (0 + N) % 1 := Int.emod_nonneg _ (by omega)
  have r1 : (0 + N) % 1 < 1 := Int.emod_lt_of_pos _ (by omega)
  have c0 : 0 ≤ min (0 + (0 + N) / 1) nev := by have := Int.ediv_nonneg (show 0 ≤ 0 + N by omega) (show 0 ≤ 1 by omega); unfold nev; omega
  have c1 : min (0 + (0 + N) / 1) nev < 18446744073709551616 := by unfold nev; omega
  go_upto_region 6 with (fail)
  rw [hN]
  clear hN
  go_wp2_with fail
  refine (eTick (rk0 1) N _ _ k0 A0 N0 N1).mono ?_
  rw [kb_tick N0]
  rintro e w12 ⟨rfl, a11, ho⟩
  have b13 := off_below B0 ho (Nat.le_refl _) (Nat.le_refl _)
  clear ho A0 B0
  generalize min (0 + (0 + N) / 1) nev = c at *
  generalize (0 + N) % 1 = r at *
  go_wp2_with fail
  refine (eStore (kb 1 c r 0 0 0) 8 (S % 4294967296) _ _ (kb_ok d0 d1 r0 r1 (by omega) (by omega) c0 c1 (by omega) (by omega) (by omega) (by omega)) a11 (by omega) (by omega) (by omega) (by omega)).mono ?_
  rw [kb_8, show wErrT 8 = 0 from rfl]
  rintro e w15 ⟨rfl, a14, ho⟩
  have b16 := off_below b13 ho (Nat.le_refl _) (Nat.le_refl _)
  clear ho a11 b13
  go_wp2_with fail
  refine (eStore (kb 1 c r (S % 4294967296) 0 0) 12 (S / 4294967296) _ _ (kb_ok d0 d1 r0 r1 (by omega) (by omega) c0 c1 (by omega) (by omega) (by omega) (by omega)) a14 (by omega) (by omega) (by omega) (by omega)).mono ?_
  rw [kb_12, show wErrT 12 = 0 from rfl, hs.out]
  rintro e w18 ⟨rfl, a17, ho⟩
  have b19 := off_below b16 ho (Nat.le_refl _) (Nat.le_refl _)
  clear ho a14 b16
  go_wp2_with fail
  refine (eSeconds (kb 1 S 0 (S % 4294967296) 0 0) _ _ a17).mono ?_
  rintro e w21 ⟨rfl, hb⟩
  have a22 := a17.below hb
  have b23 := tr b19 hb
  clear hb a17 b19
  rw [show (kb 1 S 0 (S % 4294967296) 0 0).sec = S from rfl]
  have zs : (S != S) = false := by simp
  go_wp2_with fail
  refine (eRest (kb 1 S 0 (S % 4294967296) 0 0) _ _ a22).mono ?_
  rintro e w25 ⟨rfl, hb⟩
  have a26 := a22.below hb
  have b27 := tr b23 hb
  clear hb a22 b23
  rw [show (kb 1 S 0 (S % 4294967296) 0 0).rest = 0 from rfl]
  go_wp2_with fail
  refine (eStore (kb 1 S 0 (S % 4294967296) 0 0) 20 (A / 4294967296) _ _ (kb_ok d0 d1 (Int.le_refl _) (by omega) (by omega) (by omega) (by omega) (by omega) (by omega) (by omega) (by omega) (by omega)) a26 (by omega) (by omega) (by omega) (by omega)).mono ?_
  rw [kb_20, show wErrT 20 = 0 from rfl]
  rintro e w29 ⟨rfl, a28, ho⟩
  have b30 := off_below b27 ho (Nat.le_refl _) (Nat.le_refl _)
  clear ho a26 b27
  go_wp2_with fail
  refine (eStore (kb 1 S 0 (S % 4294967296) 0 (A / 4294967296)) 16 (A % 4294967296) _ _ (kb_ok d0 d1 (Int.le_refl _) (by omega) (by omega) (by omega) (by omega) (by omega) (by omega) (by omega) (by omega) (by omega)) a28 (by omega) (by omega) (by omega) (by omega)).mono ?_
  rw [kb_16, show wErrT 16 = 0 from rfl]
  rintro e w32 ⟨rfl, a31, ho⟩
  have b33 := off_below b30 ho (Nat.le_refl _) (Nat.le_refl _)
  clear ho a28 b30
  go_wp2_with fail
  refine (eStore (kb 1 S 0 (S % 4294967296) (A % 4294967296) (A / 4294967296)) 20 (A / 4294967296) _ _ (kb_ok d0 d1 (Int.le_refl _) (by omega) (by omega) (by omega) (by omega) (by omega) (by omega) (by omega) (by omega) (by omega)) a31 (by omega) (by omega) (by omega) (by omega)).mono ?_
  rw [kb_20, show wErrT 20 = 0 from rfl]
  rintro e w35 ⟨rfl, a34, ho⟩
  have b36 := off_below b33 ho (Nat.le_refl _) (Nat.le_refl _)
  clear ho a31 b33
  go_wp2_with fail
  refine (eAlarm (kb 1 S 0 (S % 4294967296) (A % 4294967296) (A / 4294967296)) _ _ a34).mono ?_
  rintro e w38 ⟨rfl, hb⟩
  have a39 := a34.below hb
  have b40 := tr b36 hb
  clear hb a34 b36
  rw [show (kb 1 S 0 (S % 4294967296) (A % 4294967296) (A / 4294967296)).alarm = A from ha.out]
  have za : (A != A) = false := by simp
  go_wp2_with fail
  refine (eLine (kb 1 S 0 (S % 4294967296) (A % 4294967296) (A / 4294967296)) _ _ a39).mono ?_
  rintro e w42 ⟨rfl, hb⟩
  have a43 := a39.below hb
  have b44 := tr b40 hb
  clear hb a39 b40
  rw [show (kb 1 S 0 (S % 4294967296) (A % 4294967296) (A / 4294967296)).st = false from rfl]
  go_wp2_with fail
  refine (eStore (kb 1 S 0 (S % 4294967296) (A % 4294967296) (A / 4294967296)) 24 1 _ _ (kb_ok d0 d1 (Int.le_refl _) (by omega) (by omega) (by omega) (by omega) (by omega) (by omega) (by omega) (by omega) (by omega)) a43 (by omega) (by omega) (by omega) (by omega)).mono ?_
  rw [kb_24, show wErrT 24 = 0 from rfl, ha.out, decide_eq_true (show A ≤ S by omega)]
  rintro e w46 ⟨rfl, a45, ho⟩
  have b47 := off_below b44 ho (Nat.le_refl _) (Nat.le_refl _)
  clear ho a43 b44
  go_wp2_with fail
  refine (eLine (kc 1 (S) (S % 4294967296) (A % 4294967296) (A / 4294967296) true) _ _ a45).mono ?_
  rintro e w49 ⟨rfl, hb⟩
  have a50 := a45.below hb
  have b51 := tr b47 hb
  clear hb a45 b47
  rw [show (kc 1 (S) (S % 4294967296) (A % 4294967296) (A / 4294967296) true).st = true from rfl]
  have KT : (kc 1 (S) (S % 4294967296) (A % 4294967296) (A / 4294967296) true).tick 1 = kc 1 (S + 1) (S % 4294967296) (A % 4294967296) (A / 4294967296) true := by
    rcases kc_tick (d := 1) (s := S) (x := S % 4294967296) (al := A % 4294967296) (ah := A / 4294967296) d0 (by unfold nev; omega) with h | h
    · rw [ha.out, decide_eq_true (show A ≤ S by omega), show min (S + 1) nev = S + 1 by unfold nev; omega, decide_eq_true (show A ≤ S + 1 by omega)] at h; exact h
    · rw [ha.out] at h; unfold nev at h; omega
  go_wp2_with fail
  refine (eTick (kc 1 (S) (S % 4294967296) (A % 4294967296) (A / 4294967296) true) 1 _ _ ⟨d0, d1, Int.le_refl _, (by show 0 < 1; omega), (by show 0 ≤ S % 4294967296; omega), (by show S % 4294967296 < 4294967296; omega), (by show 0 ≤ S; omega), (by show S < 18446744073709551616; omega), x1.1, x1.2, x2.1, x2.2⟩ a50 (by omega) (by omega)).mono ?_
  rw [KT]
  rintro e w53 ⟨rfl, a52, ho⟩
  have b54 := off_below b51 ho (Nat.le_refl _) (Nat.le_refl _)
  clear ho a50 b51
  go_wp2_with fail
  refine (eKnown _).mono ?_
  rintro e w56 ⟨rfl, hb⟩
  have a57 := a52.below hb
  have b58 := tr b54 hb
  clear hb a52 b54
  clear KT
  go_wp2_with fail
  refine (eSeconds (kc 1 (S + 1) (S % 4294967296) (A % 4294967296) (A / 4294967296) true) _ _ a57).mono ?_
  rintro e w60 ⟨rfl, hb⟩
  have a61 := a57.below hb
  have b62 := tr b58 hb
  clear hb a57 b58
  rw [show (kc 1 (S + 1) (S % 4294967296) (A % 4294967296) (A / 4294967296) true).sec = S + 1 from rfl]
  have z1 : (S + 1 == S + 1) = true := by simp
  go_wp2_with fail
  refine (eLine (kc 1 (S + 1) (S % 4294967296) (A % 4294967296) (A / 4294967296) true) _ _ a61).mono ?_
  rintro e w64 ⟨rfl, hb⟩
  have a65 := a61.below hb
  have b66 := tr b62 hb
  clear hb a61 b62
  rw [show (kc 1 (S + 1) (S % 4294967296) (A % 4294967296) (A / 4294967296) true).st = true from rfl]
  go_wp2_with fail
  refine (eSeconds (kc 1 (S + 1) (S % 4294967296) (A % 4294967296) (A / 4294967296) true) _ _ a65).mono ?_
  rintro e w68 ⟨rfl, hb⟩
  have a69 := a65.below hb
  have b70 := tr b66 hb
  clear hb a65 b66
  rw [show (kc 1 (S + 1) (S % 4294967296) (A % 4294967296) (A / 4294967296) true).sec = S + 1 from rfl]
  go_wp2_with fail
  go_ret
  exact ⟨rfl, b70⟩
set_option maxRecDepth 100000 in
set_option maxHeartbeats 3200000 in
theorem rtcSets0t2 (w : World) (A n : Int) (a0 : 0 ≤ A) (a1 : A < 18446744073709551616) (n0 : 0 ≤ n) (n1 : n < 18446744073709551616) (S : Int) (s0 : 0 ≤ S) (s1 : S < 18446744073709551615) (hc : ¬ A ≤ S) (hc2 : A ≤ S + 1) :
    Calls Try.prog 5 #[.int .u32 0, .int .u64 S, .int .u64 A, .bool true, .int .u64 n] w fun e w' => e = .returned (.bool true) ∧ Below w.heap.size w w' := by
  have d0 : (1 : Int) ≤ 1 := by omega
  have d1 : (1 : Int) < 4294967296 := by omega
  obtain ⟨N, hN⟩ : ∃ N, n % 1099511627776 = N := ⟨_, rfl⟩
  have N0 : 0 ≤ N := by omega
  have N1 : N < 18446744073709551616 := by omega
  have qa : (A / 4294967296) % 4294967296 = A / 4294967296 := by omega
  have ha := Lib.hid (split64 A)
  have x1 : 0 ≤ A % 4294967296 ∧ A % 4294967296 < 4294967296 := by omega
  have x2 : 0 ≤ A / 4294967296 ∧ A / 4294967296 < 4294967296 := by omega
  have qs : (S / 4294967296) % 4294967296 = S / 4294967296 := by omega
  have hs := Lib.hid (split64 S)
  have y1 : 0 ≤ S % 4294967296 ∧ S % 4294967296 < 4294967296 := by omega
  have y2 : 0 ≤ S / 4294967296 ∧ S / 4294967296 < 4294967296 := by omega
  go_enter Try.func5, Try.ntmps5
  go_wp2_with fail
  refine (eNew 1 w d0 d1).mono ?_
  rintro e w1 ⟨rfl, rfl⟩
  have A0 := ea_new w tRtc (rk0 1)
  have B0 := trA (tr0 w) (oE tRtc (rk0 1))
  generalize w.alloc (oE tRtc (rk0 1)) = W at *
  have k0 := rk0_ok d0 d1
  have r0 : 0 ≤ (0 + N) % 1 := Int.emod_nonneg _ (by omega)
  have r1 : (0 + N) % 1 < 1 := Int.emod_lt_of_pos _ (by omega)
  have c0 : 0 ≤ min (0 + (0 + N) / 1) nev := by have := Int.ediv_nonneg (show 0 ≤ 0 + N by omega) (show 0 ≤ 1 by omega); unfold nev; omega
  have c1 : min (0 + (0 + N) / 1) nev < 18446744073709551616 := by unfold nev; omega
  go_upto_region 6 with (fail)
  rw [hN]
  clear hN
  go_wp2_with fail
  refine (eTick (rk0 1) N _ _ k0 A0 N0 N1).mono ?_
  rw [kb_tick N0]
  rintro e w12 ⟨rfl, a11, ho⟩
  have b13 := off_below B0 ho (Nat.le_refl _) (Nat.le_refl _)
  clear ho A0 B0
  generalize min (0 + (0 + N) / 1) nev = c at *
  generalize (0 + N) % 1 = r at *
  go_wp2_with fail
  refine (eStore (kb 1 c r 0 0 0) 8 (S % 4294967296) _ _ (kb_ok d0 d1 r0 r1 (by omega) (by omega) c0 c1 (by omega) (by omega) (by omega) (by omega)) a11 (by omega) (by omega) (by omega) (by omega)).mono ?_
  rw [kb_8, show wErrT 8 = 0 from rfl]
  rintro e w15 ⟨rfl, a14, ho⟩
  have b16 := off_below b13 ho (Nat.le_refl _) (Nat.le_refl _)
  clear ho a11 b13
  go_wp2_with fail
  refine (eStore (kb 1 c r (S % 4294967296) 0 0) 12 (S / 4294967296) _ _ (kb_ok d0 d1 r0 r1 (by omega) (by omega) c0 c1 (by omega) (by omega) (by omega) (by omega)) a14 (by omega) (by omega) (by omega) (by omega)).mono ?_
  rw [kb_12, show wErrT 12 = 0 from rfl, hs.out]
  rintro e w18 ⟨rfl, a17, ho⟩
  have b19 := off_below b16 ho (Nat.le_refl _) (Nat.le_refl _)
  clear ho a14 b16
  go_wp2_with fail
  refine (eSeconds (kb 1 S 0 (S % 4294967296) 0 0) _ _ a17).mono ?_
  rintro e w21 ⟨rfl, hb⟩
  have a22 := a17.below hb
  have b23 := tr b19 hb
  clear hb a17 b19
  rw [show (kb 1 S 0 (S % 4294967296) 0 0).sec = S from rfl]
  have zs : (S != S) = false := by simp
  go_wp2_with fail
  refine (eRest (kb 1 S 0 (S % 4294967296) 0 0) _ _ a22).mono ?_
  rintro e w25 ⟨rfl, hb⟩
  have a26 := a22.below hb
  have b27 := tr b23 hb
  clear hb a22 b23
  rw [show (kb 1 S 0 (S % 4294967296) 0 0).rest = 0 from rfl]
  go_wp2_with fail
  refine (eStore (kb 1 S 0 (S % 4294967296) 0 0) 20 (A / 4294967296) _ _ (kb_ok d0 d1 (Int.le_refl _) (by omega) (by omega) (by omega) (by omega) (by omega) (by omega) (by omega) (by omega) (by omega)) a26 (by omega) (by omega) (by omega) (by omega)).mono ?_
  rw [kb_20, show wErrT 20 = 0 from rfl]
  rintro e w29 ⟨rfl, a28, ho⟩
  have b30 := off_below b27 ho (Nat.le_refl _) (Nat.le_refl _)
  clear ho a26 b27
  go_wp2_with fail
  refine (eStore (kb 1 S 0 (S % 4294967296) 0 (A / 4294967296)) 16 (A % 4294967296) _ _ (kb_ok d0 d1 (Int.le_refl _) (by omega) (by omega) (by omega) (by omega) (by omega) (by omega) (by omega) (by omega) (by omega)) a28 (by omega) (by omega) (by omega) (by omega)).mono ?_
  rw [kb_16, show wErrT 16 = 0 from rfl]
  rintro e w32 ⟨rfl, a31, ho⟩
  have b33 := off_below b30 ho (Nat.le_refl _) (Nat.le_refl _)
  clear ho a28 b30
  go_wp2_with fail
  refine (eStore (kb 1 S 0 (S % 4294967296) (A % 4294967296) (A / 4294967296)) 20 (A / 4294967296) _ _ (kb_ok d0 d1 (Int.le_refl _) (by omega) (by omega) (by omega) (by omega) (by omega) (by omega) (by omega) (by omega) (by omega)) a31 (by omega) (by omega) (by omega) (by omega)).mono ?_
  rw [kb_20, show wErrT 20 = 0 from rfl]
  rintro e w35 ⟨rfl, a34, ho⟩
  have b36 := off_below b33 ho (Nat.le_refl _) (Nat.le_refl _)
  clear ho a31 b33
  go_wp2_with fail
  refine (eAlarm (kb 1 S 0 (S % 4294967296) (A % 4294967296) (A / 4294967296)) _ _ a34).mono ?_
  rintro e w38 ⟨rfl, hb⟩
  have a39 := a34.below hb
  have b40 := tr b36 hb
  clear hb a34 b36
  rw [show (kb 1 S 0 (S % 4294967296) (A % 4294967296) (A / 4294967296)).alarm = A from ha.out]
  have za : (A != A) = false := by simp
  go_wp2_with fail
  refine (eLine (kb 1 S 0 (S % 4294967296) (A % 4294967296) (A / 4294967296)) _ _ a39).mono ?_
  rintro e w42 ⟨rfl, hb⟩
  have a43 := a39.below hb
  have b44 := tr b40 hb
  clear hb a39 b40
  rw [show (kb 1 S 0 (S % 4294967296) (A % 4294967296) (A / 4294967296)).st = false from rfl]
  go_wp2_with fail
  refine (eStore (kb 1 S 0 (S % 4294967296) (A % 4294967296) (A / 4294967296)) 24 1 _ _ (kb_ok d0 d1 (Int.le_refl _) (by omega) (by omega) (by omega) (by omega) (by omega) (by omega) (by omega) (by omega) (by omega)) a43 (by omega) (by omega) (by omega) (by omega)).mono ?_
  rw [kb_24, show wErrT 24 = 0 from rfl, ha.out, decide_eq_false (show ¬ A ≤ S by omega)]
  rintro e w46 ⟨rfl, a45, ho⟩
  have b47 := off_below b44 ho (Nat.le_refl _) (Nat.le_refl _)
  clear ho a43 b44
  go_wp2_with fail
  refine (eLine (kc 1 (S) (S % 4294967296) (A % 4294967296) (A / 4294967296) false) _ _ a45).mono ?_
  rintro e w49 ⟨rfl, hb⟩
  have a50 := a45.below hb
  have b51 := tr b47 hb
  clear hb a45 b47
  rw [show (kc 1 (S) (S % 4294967296) (A % 4294967296) (A / 4294967296) false).st = false from rfl]
  have KT : (kc 1 (S) (S % 4294967296) (A % 4294967296) (A / 4294967296) false).tick 1 = kc 1 (S + 1) (S % 4294967296) (A % 4294967296) (A / 4294967296) true := by
    rcases kc_tick (d := 1) (s := S) (x := S % 4294967296) (al := A % 4294967296) (ah := A / 4294967296) d0 (by unfold nev; omega) with h | h
    · rw [ha.out, decide_eq_false (show ¬ A ≤ S by omega), show min (S + 1) nev = S + 1 by unfold nev; omega, decide_eq_true (show A ≤ S + 1 by omega)] at h; exact h
    · rw [ha.out] at h; unfold nev at h; omega
  go_wp2_with fail
  refine (eTick (kc 1 (S) (S % 4294967296) (A % 4294967296) (A / 4294967296) false) 1 _ _ ⟨d0, d1, Int.le_refl _, (by show 0 < 1; omega), (by show 0 ≤ S % 4294967296; omega), (by show S % 4294967296 < 4294967296; omega), (by show 0 ≤ S; omega), (by show S < 18446744073709551616; omega), x1.1, x1.2, x2.1, x2.2⟩ a50 (by omega) (by omega)).mono ?_
  rw [KT]
  rintro e w53 ⟨rfl, a52, ho⟩
  have b54 := off_below b51 ho (Nat.le_refl _) (Nat.le_refl _)
  clear ho a50 b51
  go_wp2_with fail
  refine (eKnown _).mono ?_
  rintro e w56 ⟨rfl, hb⟩
  have a57 := a52.below hb
  have b58 := tr b54 hb
  clear hb a52 b54
  clear KT
  go_wp2_with fail
  refine (eSeconds (kc 1 (S + 1) (S % 4294967296) (A % 4294967296) (A / 4294967296) true) _ _ a57).mono ?_
  rintro e w60 ⟨rfl, hb⟩
  have a61 := a57.below hb
  have b62 := tr b58 hb
  clear hb a57 b58
  rw [show (kc 1 (S + 1) (S % 4294967296) (A % 4294967296) (A / 4294967296) true).sec = S + 1 from rfl]
  have z1 : (S + 1 == S + 1) = true := by simp
  go_wp2_with fail
  refine (eLine (kc 1 (S + 1) (S % 4294967296) (A % 4294967296) (A / 4294967296) true) _ _ a61).mono ?_
  rintro e w64 ⟨rfl, hb⟩
  have a65 := a61.below hb
  have b66 := tr b62 hb
  clear hb a61 b62
  rw [show (kc 1 (S + 1) (S % 4294967296) (A % 4294967296) (A / 4294967296) true).st = true from rfl]
  go_wp2_with fail
  refine (eSeconds (kc 1 (S + 1) (S % 4294967296) (A % 4294967296) (A / 4294967296) true) _ _ a65).mono ?_
  rintro e w68 ⟨rfl, hb⟩
  have a69 := a65.below hb
  have b70 := tr b66 hb
  clear hb a65 b66
  rw [show (kc 1 (S + 1) (S % 4294967296) (A % 4294967296) (A / 4294967296) true).sec = S + 1 from rfl]
  go_wp2_with fail
  go_ret
  exact ⟨rfl, b70⟩
set_option maxRecDepth 100000 in
set_option maxHeartbeats 3200000 in
theorem rtcSets0t3 (w : World) (A n : Int) (a0 : 0 ≤ A) (a1 : A < 18446744073709551616) (n0 : 0 ≤ n) (n1 : n < 18446744073709551616) (S : Int) (s0 : 0 ≤ S) (s1 : S < 18446744073709551615) (hc : ¬ A ≤ S) (hc2 : ¬ A ≤ S + 1) :
    Calls Try.prog 5 #[.int .u32 0, .int .u64 S, .int .u64 A, .bool true, .int .u64 n] w fun e w' => e = .returned (.bool true) ∧ Below w.heap.size w w' := by
  have d0 : (1 : Int) ≤ 1 := by omega
  have d1 : (1 : Int) < 4294967296 := by omega
  obtain ⟨N, hN⟩ : ∃ N, n % 1099511627776 = N := ⟨_, rfl⟩
  have N0 : 0 ≤ N := by omega
  have N1 : N < 18446744073709551616 := by omega
  have qa : (A / 4294967296) % 4294967296 = A / 4294967296 := by omega
  have ha := Lib.hid (split64 A)
  have x1 : 0 ≤ A % 4294967296 ∧ A % 4294967296 < 4294967296 := by omega
  have x2 : 0 ≤ A / 4294967296 ∧ A / 4294967296 < 4294967296 := by omega
  have qs : (S / 4294967296) % 4294967296 = S / 4294967296 := by omega
  have hs := Lib.hid (split64 S)
  have y1 : 0 ≤ S % 4294967296 ∧ S % 4294967296 < 4294967296 := by omega
  have y2 : 0 ≤ S / 4294967296 ∧ S / 4294967296 < 4294967296 := by omega
  go_enter Try.func5, Try.ntmps5
  go_wp2_with fail
  refine (eNew 1 w d0 d1).mono ?_
  rintro e w1 ⟨rfl, rfl⟩
  have A0 := ea_new w tRtc (rk0 1)
  have B0 := trA (tr0 w) (oE tRtc (rk0 1))
  generalize w.alloc (oE tRtc (rk0 1)) = W at *
  have k0 := rk0_ok d0 d1
  have r0 : 0 ≤ (0 + N) % 1 := Int.emod_nonneg _ (by omega)
  have r1 : (0 + N) % 1 < 1 := Int.emod_lt_of_pos _ (by omega)
  have c0 : 0 ≤ min (0 + (0 + N) / 1) nev := by have := Int.ediv_nonneg (show 0 ≤ 0 + N by omega) (show 0 ≤ 1 by omega); unfold nev; omega
  have c1 : min (0 + (0 + N) / 1) nev < 18446744073709551616 := by unfold nev; omega
  go_upto_region 6 with (fail)
  rw [hN]
  clear hN
  go_wp2_with fail
  refine (eTick (rk0 1) N _ _ k0 A0 N0 N1).mono ?_
  rw [kb_tick N0]
  rintro e w12 ⟨rfl, a11, ho⟩
  have b13 := off_below B0 ho (Nat.le_refl _) (Nat.le_refl _)
  clear ho A0 B0
  generalize min (0 + (0 + N) / 1) nev = c at *
  generalize (0 + N) % 1 = r at *
  go_wp2_with fail
  refine (eStore (kb 1 c r 0 0 0) 8 (S % 4294967296) _ _ (kb_ok d0 d1 r0 r1 (by omega) (by omega) c0 c1 (by omega) (by omega) (by omega) (by omega)) a11 (by omega) (by omega) (by omega) (by omega)).mono ?_
  rw [kb_8, show wErrT 8 = 0 from rfl]
  rintro e w15 ⟨rfl, a14, ho⟩
  have b16 := off_below b13 ho (Nat.le_refl _) (Nat.le_refl _)
  clear ho a11 b13
  go_wp2_with fail
  refine (eStore (kb 1 c r (S % 4294967296) 0 0) 12 (S / 4294967296) _ _ (kb_ok d0 d1 r0 r1 (by omega) (by omega) c0 c1 (by omega) (by omega) (by omega) (by omega)) a14 (by omega) (by omega) (by omega) (by omega)).mono ?_
  rw [kb_12, show wErrT 12 = 0 from rfl, hs.out]
  rintro e w18 ⟨rfl, a17, ho⟩
  have b19 := off_below b16 ho (Nat.le_refl _) (Nat.le_refl _)
  clear ho a14 b16
  go_wp2_with fail
  refine (eSeconds (kb 1 S 0 (S % 4294967296) 0 0) _ _ a17).mono ?_
  rintro e w21 ⟨rfl, hb⟩
  have a22 := a17.below hb
  have b23 := tr b19 hb
  clear hb a17 b19
  rw [show (kb 1 S 0 (S % 4294967296) 0 0).sec = S from rfl]
  have zs : (S != S) = false := by simp
  go_wp2_with fail
  refine (eRest (kb 1 S 0 (S % 4294967296) 0 0) _ _ a22).mono ?_
  rintro e w25 ⟨rfl, hb⟩
  have a26 := a22.below hb
  have b27 := tr b23 hb
  clear hb a22 b23
  rw [show (kb 1 S 0 (S % 4294967296) 0 0).rest = 0 from rfl]
  go_wp2_with fail
  refine (eStore (kb 1 S 0 (S % 4294967296) 0 0) 20 (A / 4294967296) _ _ (kb_ok d0 d1 (Int.le_refl _) (by omega) (by omega) (by omega) (by omega) (by omega) (by omega) (by omega) (by omega) (by omega)) a26 (by omega) (by omega) (by omega) (by omega)).mono ?_
  rw [kb_20, show wErrT 20 = 0 from rfl]
  rintro e w29 ⟨rfl, a28, ho⟩
  have b30 := off_below b27 ho (Nat.le_refl _) (Nat.le_refl _)
  clear ho a26 b27
  go_wp2_with fail
  refine (eStore (kb 1 S 0 (S % 4294967296) 0 (A / 4294967296)) 16 (A % 4294967296) _ _ (kb_ok d0 d1 (Int.le_refl _) (by omega) (by omega) (by omega) (by omega) (by omega) (by omega) (by omega) (by omega) (by omega)) a28 (by omega) (by omega) (by omega) (by omega)).mono ?_
  rw [kb_16, show wErrT 16 = 0 from rfl]
  rintro e w32 ⟨rfl, a31, ho⟩
  have b33 := off_below b30 ho (Nat.le_refl _) (Nat.le_refl _)
  clear ho a28 b30
  go_wp2_with fail
  refine (eStore (kb 1 S 0 (S % 4294967296) (A % 4294967296) (A / 4294967296)) 20 (A / 4294967296) _ _ (kb_ok d0 d1 (Int.le_refl _) (by omega) (by omega) (by omega) (by omega) (by omega) (by omega) (by omega) (by omega) (by omega)) a31 (by omega) (by omega) (by omega) (by omega)).mono ?_
  rw [kb_20, show wErrT 20 = 0 from rfl]
  rintro e w35 ⟨rfl, a34, ho⟩
  have b36 := off_below b33 ho (Nat.le_refl _) (Nat.le_refl _)
  clear ho a31 b33
  go_wp2_with fail
  refine (eAlarm (kb 1 S 0 (S % 4294967296) (A % 4294967296) (A / 4294967296)) _ _ a34).mono ?_
  rintro e w38 ⟨rfl, hb⟩
  have a39 := a34.below hb
  have b40 := tr b36 hb
  clear hb a34 b36
  rw [show (kb 1 S 0 (S % 4294967296) (A % 4294967296) (A / 4294967296)).alarm = A from ha.out]
  have za : (A != A) = false := by simp
  go_wp2_with fail
  refine (eLine (kb 1 S 0 (S % 4294967296) (A % 4294967296) (A / 4294967296)) _ _ a39).mono ?_
  rintro e w42 ⟨rfl, hb⟩
  have a43 := a39.below hb
  have b44 := tr b40 hb
  clear hb a39 b40
  rw [show (kb 1 S 0 (S % 4294967296) (A % 4294967296) (A / 4294967296)).st = false from rfl]
  go_wp2_with fail
  refine (eStore (kb 1 S 0 (S % 4294967296) (A % 4294967296) (A / 4294967296)) 24 1 _ _ (kb_ok d0 d1 (Int.le_refl _) (by omega) (by omega) (by omega) (by omega) (by omega) (by omega) (by omega) (by omega) (by omega)) a43 (by omega) (by omega) (by omega) (by omega)).mono ?_
  rw [kb_24, show wErrT 24 = 0 from rfl, ha.out, decide_eq_false (show ¬ A ≤ S by omega)]
  rintro e w46 ⟨rfl, a45, ho⟩
  have b47 := off_below b44 ho (Nat.le_refl _) (Nat.le_refl _)
  clear ho a43 b44
  go_wp2_with fail
  refine (eLine (kc 1 (S) (S % 4294967296) (A % 4294967296) (A / 4294967296) false) _ _ a45).mono ?_
  rintro e w49 ⟨rfl, hb⟩
  have a50 := a45.below hb
  have b51 := tr b47 hb
  clear hb a45 b47
  rw [show (kc 1 (S) (S % 4294967296) (A % 4294967296) (A / 4294967296) false).st = false from rfl]
  have KT : (kc 1 (S) (S % 4294967296) (A % 4294967296) (A / 4294967296) false).tick 1 = kc 1 (S + 1) (S % 4294967296) (A % 4294967296) (A / 4294967296) false := by
    rcases kc_tick (d := 1) (s := S) (x := S % 4294967296) (al := A % 4294967296) (ah := A / 4294967296) d0 (by unfold nev; omega) with h | h
    · rw [ha.out, decide_eq_false (show ¬ A ≤ S by omega), show min (S + 1) nev = S + 1 by unfold nev; omega, decide_eq_false (show ¬ A ≤ S + 1 by omega)] at h; exact h
    · rw [ha.out] at h; unfold nev at h; omega
  go_wp2_with fail
  refine (eTick (kc 1 (S) (S % 4294967296) (A % 4294967296) (A / 4294967296) false) 1 _ _ ⟨d0, d1, Int.le_refl _, (by show 0 < 1; omega), (by show 0 ≤ S % 4294967296; omega), (by show S % 4294967296 < 4294967296; omega), (by show 0 ≤ S; omega), (by show S < 18446744073709551616; omega), x1.1, x1.2, x2.1, x2.2⟩ a50 (by omega) (by omega)).mono ?_
  rw [KT]
  rintro e w53 ⟨rfl, a52, ho⟩
  have b54 := off_below b51 ho (Nat.le_refl _) (Nat.le_refl _)
  clear ho a50 b51
  go_wp2_with fail
  refine (eKnown _).mono ?_
  rintro e w56 ⟨rfl, hb⟩
  have a57 := a52.below hb
  have b58 := tr b54 hb
  clear hb a52 b54
  clear KT
  go_wp2_with fail
  refine (eSeconds (kc 1 (S + 1) (S % 4294967296) (A % 4294967296) (A / 4294967296) false) _ _ a57).mono ?_
  rintro e w60 ⟨rfl, hb⟩
  have a61 := a57.below hb
  have b62 := tr b58 hb
  clear hb a57 b58
  rw [show (kc 1 (S + 1) (S % 4294967296) (A % 4294967296) (A / 4294967296) false).sec = S + 1 from rfl]
  have z1 : (S + 1 == S + 1) = true := by simp
  go_wp2_with fail
  refine (eLine (kc 1 (S + 1) (S % 4294967296) (A % 4294967296) (A / 4294967296) false) _ _ a61).mono ?_
  rintro e w64 ⟨rfl, hb⟩
  have a65 := a61.below hb
  have b66 := tr b62 hb
  clear hb a61 b62
  rw [show (kc 1 (S + 1) (S % 4294967296) (A % 4294967296) (A / 4294967296) false).st = false from rfl]
  go_wp2_with fail
  refine (eSeconds (kc 1 (S + 1) (S % 4294967296) (A % 4294967296) (A / 4294967296) false) _ _ a65).mono ?_
  rintro e w68 ⟨rfl, hb⟩
  have a69 := a65.below hb
  have b70 := tr b66 hb
  clear hb a65 b66
  rw [show (kc 1 (S + 1) (S % 4294967296) (A % 4294967296) (A / 4294967296) false).sec = S + 1 from rfl]
  go_wp2_with fail
  go_ret
  exact ⟨ret_bool (by simp; omega), b70⟩
set_option maxRecDepth 100000 in
set_option maxHeartbeats 3200000 in
theorem rtcSets1f0 (w : World) (d : Int) (d0 : 1 ≤ d) (d1 : d < 4294967296) (A n : Int) (a0 : 0 ≤ A) (a1 : A < 18446744073709551616) (n0 : 0 ≤ n) (n1 : n < 18446744073709551616) :
    Calls Try.prog 5 #[.int .u32 d, .int .u64 18446744073709551615, .int .u64 A, .bool false, .int .u64 n] w fun e w' => e = .returned (.bool true) ∧ Below w.heap.size w w' := by
  obtain ⟨N, hN⟩ : ∃ N, n % 1099511627776 = N := ⟨_, rfl⟩
  have N0 : 0 ≤ N := by omega
  have N1 : N < 18446744073709551616 := by omega
  have qa : (A / 4294967296) % 4294967296 = A / 4294967296 := by omega
  have ha := Lib.hid (split64 A)
  have x1 : 0 ≤ A % 4294967296 ∧ A % 4294967296 < 4294967296 := by omega
  have x2 : 0 ≤ A / 4294967296 ∧ A / 4294967296 < 4294967296 := by omega
  go_enter Try.func5, Try.ntmps5
  go_wp2_with fail
  refine (eNew d w d0 d1).mono ?_
  rintro e w1 ⟨rfl, rfl⟩
  have A0 := ea_new w tRtc (rk0 d)
  have B0 := trA (tr0 w) (oE tRtc (rk0 d))
  generalize w.alloc (oE tRtc (rk0 d)) = W at *
  have k0 := rk0_ok d0 d1
  have r0 : 0 ≤ (0 + N) % d := Int.emod_nonneg _ (by omega)
  have r1 : (0 + N) % d < d := Int.emod_lt_of_pos _ (by omega)
  have c0 : 0 ≤ min (0 + (0 + N) / d) nev := by have := Int.ediv_nonneg (show 0 ≤ 0 + N by omega) (show 0 ≤ d by omega); unfold nev; omega
  have c1 : min (0 + (0 + N) / d) nev < 18446744073709551616 := by unfold nev; omega
  go_upto_region 6 with (fail)
  rw [hN]
  clear hN
  go_wp2_with fail
  refine (eTick (rk0 d) N _ _ k0 A0 N0 N1).mono ?_
  rw [kb_tick N0]
  rintro e w12 ⟨rfl, a11, ho⟩
  have b13 := off_below B0 ho (Nat.le_refl _) (Nat.le_refl _)
  clear ho A0 B0
  generalize min (0 + (0 + N) / d) nev = c at *
  generalize (0 + N) % d = r at *
  go_wp2_with fail
  refine (eStore (kb d c r 0 0 0) 8 (4294967295) _ _ (kb_ok d0 d1 r0 r1 (by omega) (by omega) c0 c1 (by omega) (by omega) (by omega) (by omega)) a11 (by omega) (by omega) (by omega) (by omega)).mono ?_
  rw [kb_8, show wErrT 8 = 0 from rfl]
  rintro e w15 ⟨rfl, a14, ho⟩
  have b16 := off_below b13 ho (Nat.le_refl _) (Nat.le_refl _)
  clear ho a11 b13
  go_wp2_with fail
  refine (eStore (kb d c r (4294967295) 0 0) 12 (4294967295) _ _ (kb_ok d0 d1 r0 r1 (by omega) (by omega) c0 c1 (by omega) (by omega) (by omega) (by omega)) a14 (by omega) (by omega) (by omega) (by omega)).mono ?_
  rw [kb_12, show wErrT 12 = 0 from rfl, show join 4294967295 4294967295 = 18446744073709551615 from rfl]
  rintro e w18 ⟨rfl, a17, ho⟩
  have b19 := off_below b16 ho (Nat.le_refl _) (Nat.le_refl _)
  clear ho a14 b16
  go_wp2_with fail
  refine (eSeconds (kb d 18446744073709551615 0 (4294967295) 0 0) _ _ a17).mono ?_
  rintro e w21 ⟨rfl, hb⟩
  have a22 := a17.below hb
  have b23 := tr b19 hb
  clear hb a17 b19
  rw [show (kb d 18446744073709551615 0 (4294967295) 0 0).sec = 18446744073709551615 from rfl]
  skip
  go_wp2_with fail
  refine (eRest (kb d 18446744073709551615 0 (4294967295) 0 0) _ _ a22).mono ?_
  rintro e w25 ⟨rfl, hb⟩
  have a26 := a22.below hb
  have b27 := tr b23 hb
  clear hb a22 b23
  rw [show (kb d 18446744073709551615 0 (4294967295) 0 0).rest = 0 from rfl]
  go_wp2_with fail
  refine (eStore (kb d 18446744073709551615 0 (4294967295) 0 0) 16 (A % 4294967296) _ _ (kb_ok d0 d1 (Int.le_refl _) (by omega) (by omega) (by omega) (by omega) (by omega) (by omega) (by omega) (by omega) (by omega)) a26 (by omega) (by omega) (by omega) (by omega)).mono ?_
  rw [kb_16, show wErrT 16 = 0 from rfl]
  rintro e w29 ⟨rfl, a28, ho⟩
  have b30 := off_below b27 ho (Nat.le_refl _) (Nat.le_refl _)
  clear ho a26 b27
  go_wp2_with fail
  refine (eStore (kb d 18446744073709551615 0 (4294967295) (A % 4294967296) 0) 20 (A / 4294967296) _ _ (kb_ok d0 d1 (Int.le_refl _) (by omega) (by omega) (by omega) (by omega) (by omega) (by omega) (by omega) (by omega) (by omega)) a28 (by omega) (by omega) (by omega) (by omega)).mono ?_
  rw [kb_20, show wErrT 20 = 0 from rfl]
  rintro e w32 ⟨rfl, a31, ho⟩
  have b33 := off_below b30 ho (Nat.le_refl _) (Nat.le_refl _)
  clear ho a28 b30
  go_wp2_with fail
  refine (eAlarm (kb d 18446744073709551615 0 (4294967295) (A % 4294967296) (A / 4294967296)) _ _ a31).mono ?_
  rintro e w35 ⟨rfl, hb⟩
  have a36 := a31.below hb
  have b37 := tr b33 hb
  clear hb a31 b33
  rw [show (kb d 18446744073709551615 0 (4294967295) (A % 4294967296) (A / 4294967296)).alarm = A from ha.out]
  have za : (A != A) = false := by simp
  go_wp2_with fail
  refine (eLine (kb d 18446744073709551615 0 (4294967295) (A % 4294967296) (A / 4294967296)) _ _ a36).mono ?_
  rintro e w39 ⟨rfl, hb⟩
  have a40 := a36.below hb
  have b41 := tr b37 hb
  clear hb a36 b37
  rw [show (kb d 18446744073709551615 0 (4294967295) (A % 4294967296) (A / 4294967296)).st = false from rfl]
  go_wp2_with fail
  refine (eStore (kb d 18446744073709551615 0 (4294967295) (A % 4294967296) (A / 4294967296)) 24 1 _ _ (kb_ok d0 d1 (Int.le_refl _) (by omega) (by omega) (by omega) (by omega) (by omega) (by omega) (by omega) (by omega) (by omega)) a40 (by omega) (by omega) (by omega) (by omega)).mono ?_
  rw [kb_24, show wErrT 24 = 0 from rfl, ha.out, decide_eq_true (show A ≤ 18446744073709551615 by omega)]
  rintro e w43 ⟨rfl, a42, ho⟩
  have b44 := off_below b41 ho (Nat.le_refl _) (Nat.le_refl _)
  clear ho a40 b41
  go_wp2_with fail
  refine (eLine (kc d (18446744073709551615) (4294967295) (A % 4294967296) (A / 4294967296) true) _ _ a42).mono ?_
  rintro e w46 ⟨rfl, hb⟩
  have a47 := a42.below hb
  have b48 := tr b44 hb
  clear hb a42 b44
  rw [show (kc d (18446744073709551615) (4294967295) (A % 4294967296) (A / 4294967296) true).st = true from rfl]
  have hc : A ≤ 18446744073709551615 := by omega
  have KT : (kc d (18446744073709551615) (4294967295) (A % 4294967296) (A / 4294967296) true).tick d = kc d (18446744073709551615) (4294967295) (A % 4294967296) (A / 4294967296) true := by
    rcases kc_tick (d := d) (s := 18446744073709551615) (x := 4294967295) (al := A % 4294967296) (ah := A / 4294967296) d0 (by unfold nev; omega) with h | h
    · rw [ha.out, decide_eq_true (show A ≤ 18446744073709551615 by omega), show min (18446744073709551615 + 1) nev = 18446744073709551615 by unfold nev; omega, decide_eq_true (show A ≤ 18446744073709551615 by omega)] at h; exact h
    · rw [ha.out] at h; unfold nev at h; omega
  go_wp2_with fail
  refine (eTick (kc d (18446744073709551615) (4294967295) (A % 4294967296) (A / 4294967296) true) d _ _ ⟨d0, d1, Int.le_refl _, (by show 0 < d; omega), (by show 0 ≤ 4294967295; omega), (by show 4294967295 < 4294967296; omega), (by show 0 ≤ 18446744073709551615; omega), (by show 18446744073709551615 < 18446744073709551616; omega), x1.1, x1.2, x2.1, x2.2⟩ a47 (by omega) (by omega)).mono ?_
  rw [KT]
  rintro e w50 ⟨rfl, a49, ho⟩
  have b51 := off_below b48 ho (Nat.le_refl _) (Nat.le_refl _)
  clear ho a47 b48
  go_wp2_with fail
  refine (eKnown _).mono ?_
  rintro e w53 ⟨rfl, hb⟩
  have a54 := a49.below hb
  have b55 := tr b51 hb
  clear hb a49 b51
  clear KT
  go_wp2_with fail
  refine (eSeconds (kc d (18446744073709551615) (4294967295) (A % 4294967296) (A / 4294967296) true) _ _ a54).mono ?_
  rintro e w57 ⟨rfl, hb⟩
  have a58 := a54.below hb
  have b59 := tr b55 hb
  clear hb a54 b55
  rw [show (kc d (18446744073709551615) (4294967295) (A % 4294967296) (A / 4294967296) true).sec = 18446744073709551615 from rfl]
  go_wp2_with fail
  refine (eSeconds (kc d (18446744073709551615) (4294967295) (A % 4294967296) (A / 4294967296) true) _ _ a58).mono ?_
  rintro e w61 ⟨rfl, hb⟩
  have a62 := a58.below hb
  have b63 := tr b59 hb
  clear hb a58 b59
  rw [show (kc d (18446744073709551615) (4294967295) (A % 4294967296) (A / 4294967296) true).sec = 18446744073709551615 from rfl]
  go_wp2_with fail
  refine (eLine (kc d (18446744073709551615) (4294967295) (A % 4294967296) (A / 4294967296) true) _ _ a62).mono ?_
  rintro e w65 ⟨rfl, hb⟩
  have a66 := a62.below hb
  have b67 := tr b63 hb
  clear hb a62 b63
  rw [show (kc d (18446744073709551615) (4294967295) (A % 4294967296) (A / 4294967296) true).st = true from rfl]
  go_wp2_with fail
  refine (eSeconds (kc d (18446744073709551615) (4294967295) (A % 4294967296) (A / 4294967296) true) _ _ a66).mono ?_
  rintro e w69 ⟨rfl, hb⟩
  have a70 := a66.below hb
  have b71 := tr b67 hb
  clear hb a66 b67
  rw [show (kc d (18446744073709551615) (4294967295) (A % 4294967296) (A / 4294967296) true).sec = 18446744073709551615 from rfl]
  go_wp2_with fail
  go_ret
  exact ⟨rfl, b71⟩
set_option maxRecDepth 100000 in
set_option maxHeartbeats 3200000 in
theorem rtcSets1f1 (w : World) (d : Int) (d0 : 1 ≤ d) (d1 : d < 4294967296) (A n : Int) (a0 : 0 ≤ A) (a1 : A < 18446744073709551616) (n0 : 0 ≤ n) (n1 : n < 18446744073709551616) (S : Int) (s0 : 0 ≤ S) (s1 : S < 18446744073709551615) (hc : A ≤ S) :
    Calls Try.prog 5 #[.int .u32 d, .int .u64 S, .int .u64 A, .bool false, .int .u64 n] w fun e w' => e = .returned (.bool true) ∧ Below w.heap.size w w' := by
  obtain ⟨N, hN⟩ : ∃ N, n % 1099511627776 = N := ⟨_, rfl⟩
  have N0 : 0 ≤ N := by omega
  have N1 : N < 18446744073709551616 := by omega
  have qa : (A / 4294967296) % 4294967296 = A / 4294967296 := by omega
  have ha := Lib.hid (split64 A)
  have x1 : 0 ≤ A % 4294967296 ∧ A % 4294967296 < 4294967296 := by omega
  have x2 : 0 ≤ A / 4294967296 ∧ A / 4294967296 < 4294967296 := by omega
  have hc2 : A ≤ S + 1 := by omega
  have qs : (S / 4294967296) % 4294967296 = S / 4294967296 := by omega
  have hs := Lib.hid (split64 S)
  have y1 : 0 ≤ S % 4294967296 ∧ S % 4294967296 < 4294967296 := by omega
  have y2 : 0 ≤ S / 4294967296 ∧ S / 4294967296 < 4294967296 := by omega
  go_enter Try.func5, Try.ntmps5
  go_wp2_with fail
  refine (eNew d w d0 d1).mono ?_
  rintro e w1 ⟨rfl, rfl⟩
  have A0 := ea_new w tRtc (rk0 d)
  have B0 := trA (tr0 w) (oE tRtc (rk0 d))
  generalize w.alloc (oE tRtc (rk0 d)) = W at *
  have k0 := rk0_ok d0 d1
  have r0 : 0 ≤ (0 + N) % d := Int.emod_nonneg _ (by omega)
  have r1 : (0 + N) % d < d := Int.emod_lt_of_pos _ (by omega)
  have c0 : 0 ≤ min (0 + (0 + N) / d) nev := by have := Int.ediv_nonneg (show 0 ≤ 0 + N by omega) (show 0 ≤ d by omega); unfold nev; omega
  have c1 : min (0 + (0 + N) / d) nev < 18446744073709551616 := by unfold nev; omega
  go_upto_region 6 with (fail)
  rw [hN]
  clear hN
  go_wp2_with fail
  refine (eTick (rk0 d) N _ _ k0 A0 N0 N1).mono ?_
  rw [kb_tick N0]
  rintro e w12 ⟨rfl, a11, ho⟩
  have b13 := off_below B0 ho (Nat.le_refl _) (Nat.le_refl _)
  clear ho A0 B0
  generalize min (0 + (0 + N) / d) nev = c at *
  generalize (0 + N) % d = r at *
  go_wp2_with fail
  refine (eStore (kb d c r 0 0 0) 8 (S % 4294967296) _ _ (kb_ok d0 d1 r0 r1 (by omega) (by omega) c0 c1 (by omega) (by omega) (by omega) (by omega)) a11 (by omega) (by omega) (by omega) (by omega)).mono ?_
  rw [kb_8, show wErrT 8 = 0 from rfl]
  rintro e w15 ⟨rfl, a14, ho⟩
  have b16 := off_below b13 ho (Nat.le_refl _) (Nat.le_refl _)
  clear ho a11 b13
  go_wp2_with fail
  refine (eStore (kb d c r (S % 4294967296) 0 0) 12 (S / 4294967296) _ _ (kb_ok d0 d1 r0 r1 (by omega) (by omega) c0 c1 (by omega) (by omega) (by omega) (by omega)) a14 (by omega) (by omega) (by omega) (by omega)).mono ?_
  rw [kb_12, show wErrT 12 = 0 from rfl, hs.out]
  rintro e w18 ⟨rfl, a17, ho⟩
  have b19 := off_below b16 ho (Nat.le_refl _) (Nat.le_refl _)
  clear ho a14 b16
  go_wp2_with fail
  refine (eSeconds (kb d S 0 (S % 4294967296) 0 0) _ _ a17).mono ?_
  rintro e w21 ⟨rfl, hb⟩
  have a22 := a17.below hb
  have b23 := tr b19 hb
  clear hb a17 b19
  rw [show (kb d S 0 (S % 4294967296) 0 0).sec = S from rfl]
  have zs : (S != S) = false := by simp
  go_wp2_with fail
  refine (eRest (kb d S 0 (S % 4294967296) 0 0) _ _ a22).mono ?_
  rintro e w25 ⟨rfl, hb⟩
  have a26 := a22.below hb
  have b27 := tr b23 hb
  clear hb a22 b23
  rw [show (kb d S 0 (S % 4294967296) 0 0).rest = 0 from rfl]
  go_wp2_with fail
  refine (eStore (kb d S 0 (S % 4294967296) 0 0) 16 (A % 4294967296) _ _ (kb_ok d0 d1 (Int.le_refl _) (by omega) (by omega) (by omega) (by omega) (by omega) (by omega) (by omega) (by omega) (by omega)) a26 (by omega) (by omega) (by omega) (by omega)).mono ?_
  rw [kb_16, show wErrT 16 = 0 from rfl]
  rintro e w29 ⟨rfl, a28, ho⟩
  have b30 := off_below b27 ho (Nat.le_refl _) (Nat.le_refl _)
  clear ho a26 b27
  go_wp2_with fail
  refine (eStore (kb d S 0 (S % 4294967296) (A % 4294967296) 0) 20 (A / 4294967296) _ _ (kb_ok d0 d1 (Int.le_refl _) (by omega) (by omega) (by omega) (by omega) (by omega) (by omega) (by omega) (by omega) (by omega)) a28 (by omega) (by omega) (by omega) (by omega)).mono ?_
  rw [kb_20, show wErrT 20 = 0 from rfl]
  rintro e w32 ⟨rfl, a31, ho⟩
  have b33 := off_below b30 ho (Nat.le_refl _) (Nat.le_refl _)
  clear ho a28 b30
  go_wp2_with fail
  refine (eAlarm (kb d S 0 (S % 4294967296) (A % 4294967296) (A / 4294967296)) _ _ a31).mono ?_
  rintro e w35 ⟨rfl, hb⟩
  have a36 := a31.below hb
  have b37 := tr b33 hb
  clear hb a31 b33
  rw [show (kb d S 0 (S % 4294967296) (A % 4294967296) (A / 4294967296)).alarm = A from ha.out]
  have za : (A != A) = false := by simp
  go_wp2_with fail
  refine (eLine (kb d S 0 (S % 4294967296) (A % 4294967296) (A / 4294967296)) _ _ a36).mono ?_
  rintro e w39 ⟨rfl, hb⟩
  have a40 := a36.below hb
  have b41 := tr b37 hb
  clear hb a36 b37
  rw [show (kb d S 0 (S % 4294967296) (A % 4294967296) (A / 4294967296)).st = false from rfl]
  go_wp2_with fail
  refine (eStore (kb d S 0 (S % 4294967296) (A % 4294967296) (A / 4294967296)) 24 1 _ _ (kb_ok d0 d1 (Int.le_refl _) (by omega) (by omega) (by omega) (by omega) (by omega) (by omega) (by omega) (by omega) (by omega)) a40 (by omega) (by omega) (by omega) (by omega)).mono ?_
  rw [kb_24, show wErrT 24 = 0 from rfl, ha.out, decide_eq_true (show A ≤ S by omega)]
  rintro e w43 ⟨rfl, a42, ho⟩
  have b44 := off_below b41 ho (Nat.le_refl _) (Nat.le_refl _)
  clear ho a40 b41
  go_wp2_with fail
  refine (eLine (kc d (S) (S % 4294967296) (A % 4294967296) (A / 4294967296) true) _ _ a42).mono ?_
  rintro e w46 ⟨rfl, hb⟩
  have a47 := a42.below hb
  have b48 := tr b44 hb
  clear hb a42 b44
  rw [show (kc d (S) (S % 4294967296) (A % 4294967296) (A / 4294967296) true).st = true from rfl]
  have KT : (kc d (S) (S % 4294967296) (A % 4294967296) (A / 4294967296) true).tick d = kc d (S + 1) (S % 4294967296) (A % 4294967296) (A / 4294967296) true := by
    rcases kc_tick (d := d) (s := S) (x := S % 4294967296) (al := A % 4294967296) (ah := A / 4294967296) d0 (by unfold nev; omega) with h | h
    · rw [ha.out, decide_eq_true (show A ≤ S by omega), show min (S + 1) nev = S + 1 by unfold nev; omega, decide_eq_true (show A ≤ S + 1 by omega)] at h; exact h
    · rw [ha.out] at h; unfold nev at h; omega
  go_wp2_with fail
  refine (eTick (kc d (S) (S % 4294967296) (A % 4294967296) (A / 4294967296) true) d _ _ ⟨d0, d1, Int.le_refl _, (by show 0 < d; omega), (by show 0 ≤ S % 4294967296; omega), (by show S % 4294967296 < 4294967296; omega), (by show 0 ≤ S; omega), (by show S < 18446744073709551616; omega), x1.1, x1.2, x2.1, x2.2⟩ a47 (by omega) (by omega)).mono ?_
  rw [KT]
  rintro e w50 ⟨rfl, a49, ho⟩
  have b51 := off_below b48 ho (Nat.le_refl _) (Nat.le_refl _)
  clear ho a47 b48
  go_wp2_with fail
  refine (eKnown _).mono ?_
  rintro e w53 ⟨rfl, hb⟩
  have a54 := a49.below hb
  have b55 := tr b51 hb
  clear hb a49 b51
  clear KT
  go_wp2_with fail
  refine (eSeconds (kc d (S + 1) (S % 4294967296) (A % 4294967296) (A / 4294967296) true) _ _ a54).mono ?_
  rintro e w57 ⟨rfl, hb⟩
  have a58 := a54.below hb
  have b59 := tr b55 hb
  clear hb a54 b55
  rw [show (kc d (S + 1) (S % 4294967296) (A % 4294967296) (A / 4294967296) true).sec = S + 1 from rfl]
  have z1 : (S + 1 == S + 1) = true := by simp
  go_wp2_with fail
  refine (eLine (kc d (S + 1) (S % 4294967296) (A % 4294967296) (A / 4294967296) true) _ _ a58).mono ?_
  rintro e w61 ⟨rfl, hb⟩
  have a62 := a58.below hb
  have b63 := tr b59 hb
  clear hb a58 b59
  rw [show (kc d (S + 1) (S % 4294967296) (A % 4294967296) (A / 4294967296) true).st = true from rfl]
  go_wp2_with fail
  refine (eSeconds (kc d (S + 1) (S % 4294967296) (A % 4294967296) (A / 4294967296) true) _ _ a62).mono ?_
  rintro e w65 ⟨rfl, hb⟩
  have a66 := a62.below hb
  have b67 := tr b63 hb
  clear hb a62 b63
  rw [show (kc d (S + 1) (S % 4294967296) (A % 4294967296) (A / 4294967296) true).sec = S + 1 from rfl]
  go_wp2_with fail
  go_ret
  exact ⟨rfl, b67⟩
set_option maxRecDepth 100000 in
set_option maxHeartbeats 3200000 in
theorem rtcSets1f2 (w : World) (d : Int) (d0 : 1 ≤ d) (d1 : d < 4294967296) (A n : Int) (a0 : 0 ≤ A) (a1 : A < 18446744073709551616) (n0 : 0 ≤ n) (n1 : n < 18446744073709551616) (S : Int) (s0 : 0 ≤ S) (s1 : S < 18446744073709551615) (hc : ¬ A ≤ S) (hc2 : A ≤ S + 1) :
    Calls Try.prog 5 #[.int .u32 d, .int .u64 S, .int .u64 A, .bool false, .int .u64 n] w fun e w' => e = .returned (.bool true) ∧ Below w.heap.size w w' := by
  obtain ⟨N, hN⟩ : ∃ N, n % 1099511627776 = N := ⟨_, rfl⟩
  have N0 : 0 ≤ N := by omega
  have N1 : N < 18446744073709551616 := by omega
  have qa : (A / 4294967296) % 4294967296 = A / 4294967296 := by omega
  have ha := Lib.hid (split64 A)
  have x1 : 0 ≤ A % 4294967296 ∧ A % 4294967296 < 4294967296 := by omega
  have x2 : 0 ≤ A / 4294967296 ∧ A / 4294967296 < 4294967296 := by omega
  have qs : (S / 4294967296) % 4294967296 = S / 4294967296 := by omega
  have hs := Lib.hid (split64 S)
  have y1 : 0 ≤ S % 4294967296 ∧ S % 4294967296 < 4294967296 := by omega
  have y2 : 0 ≤ S / 4294967296 ∧ S / 4294967296 < 4294967296 := by omega
  go_enter Try.func5, Try.ntmps5
  go_wp2_with fail
  refine (eNew d w d0 d1).mono ?_
  rintro e w1 ⟨rfl, rfl⟩
  have A0 := ea_new w tRtc (rk0 d)
  have B0 := trA (tr0 w) (oE tRtc (rk0 d))
  generalize w.alloc (oE tRtc (rk0 d)) = W at *
  have k0 := rk0_ok d0 d1
  have r0 : 0 ≤ (0 + N) % d := Int.emod_nonneg _ (by omega)
  have r1 : (0 + N) % d < d := Int.emod_lt_of_pos _ (by omega)
  have c0 : 0 ≤ min (0 + (0 + N) / d) nev := by have := Int.ediv_nonneg (show 0 ≤ 0 + N by omega) (show 0 ≤ d by omega); unfold nev; omega
  have c1 : min (0 + (0 + N) / d) nev < 18446744073709551616 := by unfold nev; omega
  go_upto_region 6 with (fail)
  rw [hN]
  clear hN
  go_wp2_with fail
  refine (eTick (rk0 d) N _ _ k0 A0 N0 N1).mono ?_
  rw [kb_tick N0]
  rintro e w12 ⟨rfl, a11, ho⟩
  have b13 := off_below B0 ho (Nat.le_refl _) (Nat.le_refl _)
  clear ho A0 B0
  generalize min (0 + (0 + N) / d) nev = c at *
  generalize (0 + N) % d = r at *
  go_wp2_with fail
  refine (eStore (kb d c r 0 0 0) 8 (S % 4294967296) _ _ (kb_ok d0 d1 r0 r1 (by omega) (by omega) c0 c1 (by omega) (by omega) (by omega) (by omega)) a11 (by omega) (by omega) (by omega) (by omega)).mono ?_
  rw [kb_8, show wErrT 8 = 0 from rfl]
  rintro e w15 ⟨rfl, a14, ho⟩
  have b16 := off_below b13 ho (Nat.le_refl _) (Nat.le_refl _)
  clear ho a11 b13
  go_wp2_with fail
  refine (eStore (kb d c r (S % 4294967296) 0 0) 12 (S / 4294967296) _ _ (kb_ok d0 d1 r0 r1 (by omega) (by omega) c0 c1 (by omega) (by omega) (by omega) (by omega)) a14 (by omega) (by omega) (by omega) (by omega)).mono ?_
  rw [kb_12, show wErrT 12 = 0 from rfl, hs.out]
  rintro e w18 ⟨rfl, a17, ho⟩
  have b19 := off_below b16 ho (Nat.le_refl _) (Nat.le_refl _)
  clear ho a14 b16
  go_wp2_with fail
  refine (eSeconds (kb d S 0 (S % 4294967296) 0 0) _ _ a17).mono ?_
  rintro e w21 ⟨rfl, hb⟩
  have a22 := a17.below hb
  have b23 := tr b19 hb
  clear hb a17 b19
  rw [show (kb d S 0 (S % 4294967296) 0 0).sec = S from rfl]
  have zs : (S != S) = false := by simp
  go_wp2_with fail
  refine (eRest (kb d S 0 (S % 4294967296) 0 0) _ _ a22).mono ?_
  rintro e w25 ⟨rfl, hb⟩
  have a26 := a22.below hb
  have b27 := tr b23 hb
  clear hb a22 b23
  rw [show (kb d S 0 (S % 4294967296) 0 0).rest = 0 from rfl]
  go_wp2_with fail
  refine (eStore (kb d S 0 (S % 4294967296) 0 0) 16 (A % 4294967296) _ _ (kb_ok d0 d1 (Int.le_refl _) (by omega) (by omega) (by omega) (by omega) (by omega) (by omega) (by omega) (by omega) (by omega)) a26 (by omega) (by omega) (by omega) (by omega)).mono ?_
  rw [kb_16, show wErrT 16 = 0 from rfl]
  rintro e w29 ⟨rfl, a28, ho⟩
  have b30 := off_below b27 ho (Nat.le_refl _) (Nat.le_refl _)
  clear ho a26 b27
  go_wp2_with fail
  refine (eStore (kb d S 0 (S % 4294967296) (A % 4294967296) 0) 20 (A / 4294967296) _ _ (kb_ok d0 d1 (Int.le_refl _) (by omega) (by omega) (by omega) (by omega) (by omega) (by omega) (by omega) (by omega) (by omega)) a28 (by omega) (by omega) (by omega) (by omega)).mono ?_
  rw [kb_20, show wErrT 20 = 0 from rfl]
  rintro e w32 ⟨rfl, a31, ho⟩
  have b33 := off_below b30 ho (Nat.le_refl _) (Nat.le_refl _)
  clear ho a28 b30
  go_wp2_with fail
  refine (eAlarm (kb d S 0 (S % 4294967296) (A % 4294967296) (A / 4294967296)) _ _ a31).mono ?_
  rintro e w35 ⟨rfl, hb⟩
  have a36 := a31.below hb
  have b37 := tr b33 hb
  clear hb a31 b33
  rw [show (kb d S 0 (S % 4294967296) (A % 4294967296) (A / 4294967296)).alarm = A from ha.out]
  have za : (A != A) = false := by simp
  go_wp2_with fail
  refine (eLine (kb d S 0 (S % 4294967296) (A % 4294967296) (A / 4294967296)) _ _ a36).mono ?_
  rintro e w39 ⟨rfl, hb⟩
  have a40 := a36.below hb
  have b41 := tr b37 hb
  clear hb a36 b37
  rw [show (kb d S 0 (S % 4294967296) (A % 4294967296) (A / 4294967296)).st = false from rfl]
  go_wp2_with fail
  refine (eStore (kb d S 0 (S % 4294967296) (A % 4294967296) (A / 4294967296)) 24 1 _ _ (kb_ok d0 d1 (Int.le_refl _) (by omega) (by omega) (by omega) (by omega) (by omega) (by omega) (by omega) (by omega) (by omega)) a40 (by omega) (by omega) (by omega) (by omega)).mono ?_
  rw [kb_24, show wErrT 24 = 0 from rfl, ha.out, decide_eq_false (show ¬ A ≤ S by omega)]
  rintro e w43 ⟨rfl, a42, ho⟩
  have b44 := off_below b41 ho (Nat.le_refl _) (Nat.le_refl _)
  clear ho a40 b41
  go_wp2_with fail
  refine (eLine (kc d (S) (S % 4294967296) (A % 4294967296) (A / 4294967296) false) _ _ a42).mono ?_
  rintro e w46 ⟨rfl, hb⟩
  have a47 := a42.below hb
  have b48 := tr b44 hb
  clear hb a42 b44
  rw [show (kc d (S) (S % 4294967296) (A % 4294967296) (A / 4294967296) false).st = false from rfl]
  have KT : (kc d (S) (S % 4294967296) (A % 4294967296) (A / 4294967296) false).tick d = kc d (S + 1) (S % 4294967296) (A % 4294967296) (A / 4294967296) true := by
    rcases kc_tick (d := d) (s := S) (x := S % 4294967296) (al := A % 4294967296) (ah := A / 4294967296) d0 (by unfold nev; omega) with h | h
    · rw [ha.out, decide_eq_false (show ¬ A ≤ S by omega), show min (S + 1) nev = S + 1 by unfold nev; omega, decide_eq_true (show A ≤ S + 1 by omega)] at h; exact h
    · rw [ha.out] at h; unfold nev at h; omega
  go_wp2_with fail
  refine (eTick (kc d (S) (S % 4294967296) (A % 4294967296) (A / 4294967296) false) d _ _ ⟨d0, d1, Int.le_refl _, (by show 0 < d; omega), (by show 0 ≤ S % 4294967296; omega), (by show S % 4294967296 < 4294967296; omega), (by show 0 ≤ S; omega), (by show S < 18446744073709551616; omega), x1.1, x1.2, x2.1, x2.2⟩ a47 (by omega) (by omega)).mono ?_
  rw [KT]
  rintro e w50 ⟨rfl, a49, ho⟩
  have b51 := off_below b48 ho (Nat.le_refl _) (Nat.le_refl _)
  clear ho a47 b48
  go_wp2_with fail
  refine (eKnown _).mono ?_
  rintro e w53 ⟨rfl, hb⟩
  have a54 := a49.below hb
  have b55 := tr b51 hb
  clear hb a49 b51
  clear KT
  go_wp2_with fail
  refine (eSeconds (kc d (S + 1) (S % 4294967296) (A % 4294967296) (A / 4294967296) true) _ _ a54).mono ?_
  rintro e w57 ⟨rfl, hb⟩
  have a58 := a54.below hb
  have b59 := tr b55 hb
  clear hb a54 b55
  rw [show (kc d (S + 1) (S % 4294967296) (A % 4294967296) (A / 4294967296) true).sec = S + 1 from rfl]
  have z1 : (S + 1 == S + 1) = true := by simp
  go_wp2_with fail
  refine (eLine (kc d (S + 1) (S % 4294967296) (A % 4294967296) (A / 4294967296) true) _ _ a58).mono ?_
  rintro e w61 ⟨rfl, hb⟩
  have a62 := a58.below hb
  have b63 := tr b59 hb
  clear hb a58 b59
  rw [show (kc d (S + 1) (S % 4294967296) (A % 4294967296) (A / 4294967296) true).st = true from rfl]
  go_wp2_with fail
  refine (eSeconds (kc d (S + 1) (S % 4294967296) (A % 4294967296) (A / 4294967296) true) _ _ a62).mono ?_
  rintro e w65 ⟨rfl, hb⟩
  have a66 := a62.below hb
  have b67 := tr b63 hb
  clear hb a62 b63
  rw [show (kc d (S + 1) (S % 4294967296) (A % 4294967296) (A / 4294967296) true).sec = S + 1 from rfl]
  go_wp2_with fail
  go_ret
  exact ⟨rfl, b67⟩
set_option maxRecDepth 100000 in
set_option maxHeartbeats 3200000 in
theorem rtcSets1f3 (w : World) (d : Int) (d0 : 1 ≤ d) (d1 : d < 4294967296) (A n : Int) (a0 : 0 ≤ A) (a1 : A < 18446744073709551616) (n0 : 0 ≤ n) (n1 : n < 18446744073709551616) (S : Int) (s0 : 0 ≤ S) (s1 : S < 18446744073709551615) (hc : ¬ A ≤ S) (hc2 : ¬ A ≤ S + 1) :
    Calls Try.prog 5 #[.int .u32 d, .int .u64 S, .int .u64 A, .bool false, .int .u64 n] w fun e w' => e = .returned (.bool true) ∧ Below w.heap.size w w' := by
  obtain ⟨N, hN⟩ : ∃ N, n % 1099511627776 = N := ⟨_, rfl⟩
  have N0 : 0 ≤ N := by omega
  have N1 : N < 18446744073709551616 := by omega
  have qa : (A / 4294967296) % 4294967296 = A / 4294967296 := by omega
  have ha := Lib.hid (split64 A)
  have x1 : 0 ≤ A % 4294967296 ∧ A % 4294967296 < 4294967296 := by omega
  have x2 : 0 ≤ A / 4294967296 ∧ A / 4294967296 < 4294967296 := by omega
  have qs : (S / 4294967296) % 4294967296 = S / 4294967296 := by omega
  have hs := Lib.hid (split64 S)
  have y1 : 0 ≤ S % 4294967296 ∧ S % 4294967296 < 4294967296 := by omega
  have y2 : 0 ≤ S / 4294967296 ∧ S / 4294967296 < 4294967296 := by omega
  go_enter Try.func5, Try.ntmps5
  go_wp2_with fail
  refine (eNew d w d0 d1).mono ?_
  rintro e w1 ⟨rfl, rfl⟩
  have A0 := ea_new w tRtc (rk0 d)
  have B0 := trA (tr0 w) (oE tRtc (rk0 d))
  generalize w.alloc (oE tRtc (rk0 d)) = W at *
  have k0 := rk0_ok d0 d1
  have r0 : 0 ≤ (0 + N) % d := Int.emod_nonneg _ (by omega)
  have r1 : (0 + N) % d < d := Int.emod_lt_of_pos _ (by omega)
  have c0 : 0 ≤ min (0 + (0 + N) / d) nev := by have := Int.ediv_nonneg (show 0 ≤ 0 + N by omega) (show 0 ≤ d by omega); unfold nev; omega
  have c1 : min (0 + (0 + N) / d) nev < 18446744073709551616 := by unfold nev; omega
  go_upto_region 6 with (fail)
  rw [hN]
  clear hN
  go_wp2_with fail
  refine (eTick (rk0 d) N _ _ k0 A0 N0 N1).mono ?_
  rw [kb_tick N0]
  rintro e w12 ⟨rfl, a11, ho⟩
  have b13 := off_below B0 ho (Nat.le_refl _) (Nat.le_refl _)
  clear ho A0 B0
  generalize min (0 + (0 + N) / d) nev = c at *
  generalize (0 + N) % d = r at *
  go_wp2_with fail
  refine (eStore (kb d c r 0 0 0) 8 (S % 4294967296) _ _ (kb_ok d0 d1 r0 r1 (by omega) (by omega) c0 c1 (by omega) (by omega) (by omega) (by omega)) a11 (by omega) (by omega) (by omega) (by omega)).mono ?_
  rw [kb_8, show wErrT 8 = 0 from rfl]
  rintro e w15 ⟨rfl, a14, ho⟩
  have b16 := off_below b13 ho (Nat.le_refl _) (Nat.le_refl _)
  clear ho a11 b13
  go_wp2_with fail
  refine (eStore (kb d c r (S % 4294967296) 0 0) 12 (S / 4294967296) _ _ (kb_ok d0 d1 r0 r1 (by omega) (by omega) c0 c1 (by omega) (by omega) (by omega) (by omega)) a14 (by omega) (by omega) (by omega) (by omega)).mono ?_
  rw [kb_12, show wErrT 12 = 0 from rfl, hs.out]
  rintro e w18 ⟨rfl, a17, ho⟩
  have b19 := off_below b16 ho (Nat.le_refl _) (Nat.le_refl _)
  clear ho a14 b16
  go_wp2_with fail
  refine (eSeconds (kb d S 0 (S % 4294967296) 0 0) _ _ a17).mono ?_
  rintro e w21 ⟨rfl, hb⟩
  have a22 := a17.below hb
  have b23 := tr b19 hb
  clear hb a17 b19
  rw [show (kb d S 0 (S % 4294967296) 0 0).sec = S from rfl]
  have zs : (S != S) = false := by simp
  go_wp2_with fail
  refine (eRest (kb d S 0 (S % 4294967296) 0 0) _ _ a22).mono ?_
  rintro e w25 ⟨rfl, hb⟩
  have a26 := a22.below hb
  have b27 := tr b23 hb
  clear hb a22 b23
  rw [show (kb d S 0 (S % 4294967296) 0 0).rest = 0 from rfl]
  go_wp2_with fail
  refine (eStore (kb d S 0 (S % 4294967296) 0 0) 16 (A % 4294967296) _ _ (kb_ok d0 d1 (Int.le_refl _) (by omega) (by omega) (by omega) (by omega) (by omega) (by omega) (by omega) (by omega) (by omega)) a26 (by omega) (by omega) (by omega) (by omega)).mono ?_
  rw [kb_16, show wErrT 16 = 0 from rfl]
  rintro e w29 ⟨rfl, a28, ho⟩
  have b30 := off_below b27 ho (Nat.le_refl _) (Nat.le_refl _)
  clear ho a26 b27
  go_wp2_with fail
  refine (eStore (kb d S 0 (S % 4294967296) (A % 4294967296) 0) 20 (A / 4294967296) _ _ (kb_ok d0 d1 (Int.le_refl _) (by omega) (by omega) (by omega) (by omega) (by omega) (by omega) (by omega) (by omega) (by omega)) a28 (by omega) (by omega) (by omega) (by omega)).mono ?_
  rw [kb_20, show wErrT 20 = 0 from rfl]
  rintro e w32 ⟨rfl, a31, ho⟩
  have b33 := off_below b30 ho (Nat.le_refl _) (Nat.le_refl _)
  clear ho a28 b30
  go_wp2_with fail
  refine (eAlarm (kb d S 0 (S % 4294967296) (A % 4294967296) (A / 4294967296)) _ _ a31).mono ?_
  rintro e w35 ⟨rfl, hb⟩
  have a36 := a31.below hb
  have b37 := tr b33 hb
  clear hb a31 b33
  rw [show (kb d S 0 (S % 4294967296) (A % 4294967296) (A / 4294967296)).alarm = A from ha.out]
  have za : (A != A) = false := by simp
  go_wp2_with fail
  refine (eLine (kb d S 0 (S % 4294967296) (A % 4294967296) (A / 4294967296)) _ _ a36).mono ?_
  rintro e w39 ⟨rfl, hb⟩
  have a40 := a36.below hb
  have b41 := tr b37 hb
  clear hb a36 b37
  rw [show (kb d S 0 (S % 4294967296) (A % 4294967296) (A / 4294967296)).st = false from rfl]
  go_wp2_with fail
  refine (eStore (kb d S 0 (S % 4294967296) (A % 4294967296) (A / 4294967296)) 24 1 _ _ (kb_ok d0 d1 (Int.le_refl _) (by omega) (by omega) (by omega) (by omega) (by omega) (by omega) (by omega) (by omega) (by omega)) a40 (by omega) (by omega) (by omega) (by omega)).mono ?_
  rw [kb_24, show wErrT 24 = 0 from rfl, ha.out, decide_eq_false (show ¬ A ≤ S by omega)]
  rintro e w43 ⟨rfl, a42, ho⟩
  have b44 := off_below b41 ho (Nat.le_refl _) (Nat.le_refl _)
  clear ho a40 b41
  go_wp2_with fail
  refine (eLine (kc d (S) (S % 4294967296) (A % 4294967296) (A / 4294967296) false) _ _ a42).mono ?_
  rintro e w46 ⟨rfl, hb⟩
  have a47 := a42.below hb
  have b48 := tr b44 hb
  clear hb a42 b44
  rw [show (kc d (S) (S % 4294967296) (A % 4294967296) (A / 4294967296) false).st = false from rfl]
  have KT : (kc d (S) (S % 4294967296) (A % 4294967296) (A / 4294967296) false).tick d = kc d (S + 1) (S % 4294967296) (A % 4294967296) (A / 4294967296) false := by
    rcases kc_tick (d := d) (s := S) (x := S % 4294967296) (al := A % 4294967296) (ah := A / 4294967296) d0 (by unfold nev; omega) with h | h
    · rw [ha.out, decide_eq_false (show ¬ A ≤ S by omega), show min (S + 1) nev = S + 1 by unfold nev; omega, decide_eq_false (show ¬ A ≤ S + 1 by omega)] at h; exact h
    · rw [ha.out] at h; unfold nev at h; omega
  go_wp2_with fail
  refine (eTick (kc d (S) (S % 4294967296) (A % 4294967296) (A / 4294967296) false) d _ _ ⟨d0, d1, Int.le_refl _, (by show 0 < d; omega), (by show 0 ≤ S % 4294967296; omega), (by show S % 4294967296 < 4294967296; omega), (by show 0 ≤ S; omega), (by show S < 18446744073709551616; omega), x1.1, x1.2, x2.1, x2.2⟩ a47 (by omega) (by omega)).mono ?_
  rw [KT]
  rintro e w50 ⟨rfl, a49, ho⟩
  have b51 := off_below b48 ho (Nat.le_refl _) (Nat.le_refl _)
  clear ho a47 b48
  go_wp2_with fail
  refine (eKnown _).mono ?_
  rintro e w53 ⟨rfl, hb⟩
  have a54 := a49.below hb
  have b55 := tr b51 hb
  clear hb a49 b51
  clear KT
  go_wp2_with fail
  refine (eSeconds (kc d (S + 1) (S % 4294967296) (A % 4294967296) (A / 4294967296) false) _ _ a54).mono ?_
  rintro e w57 ⟨rfl, hb⟩
  have a58 := a54.below hb
  have b59 := tr b55 hb
  clear hb a54 b55
  rw [show (kc d (S + 1) (S % 4294967296) (A % 4294967296) (A / 4294967296) false).sec = S + 1 from rfl]
  have z1 : (S + 1 == S + 1) = true := by simp
  go_wp2_with fail
  refine (eLine (kc d (S + 1) (S % 4294967296) (A % 4294967296) (A / 4294967296) false) _ _ a58).mono ?_
  rintro e w61 ⟨rfl, hb⟩
  have a62 := a58.below hb
  have b63 := tr b59 hb
  clear hb a58 b59
  rw [show (kc d (S + 1) (S % 4294967296) (A % 4294967296) (A / 4294967296) false).st = false from rfl]
  go_wp2_with fail
  refine (eSeconds (kc d (S + 1) (S % 4294967296) (A % 4294967296) (A / 4294967296) false) _ _ a62).mono ?_
  rintro e w65 ⟨rfl, hb⟩
  have a66 := a62.below hb
  have b67 := tr b63 hb
  clear hb a62 b63
  rw [show (kc d (S + 1) (S % 4294967296) (A % 4294967296) (A / 4294967296) false).sec = S + 1 from rfl]
  go_wp2_with fail
  go_ret
  exact ⟨ret_bool (by simp; omega), b67⟩
set_option maxRecDepth 100000 in
set_option maxHeartbeats 3200000 in
theorem rtcSets1t0 (w : World) (d : Int) (d0 : 1 ≤ d) (d1 : d < 4294967296) (A n : Int) (a0 : 0 ≤ A) (a1 : A < 18446744073709551616) (n0 : 0 ≤ n) (n1 : n < 18446744073709551616) :
    Calls Try.prog 5 #[.int .u32 d, .int .u64 18446744073709551615, .int .u64 A, .bool true, .int .u64 n] w fun e w' => e = .returned (.bool true) ∧ Below w.heap.size w w' := by
  obtain ⟨N, hN⟩ : ∃ N, n % 1099511627776 = N := ⟨_, rfl⟩
  have N0 : 0 ≤ N := by omega
  have N1 : N < 18446744073709551616 := by omega
  have qa : (A / 4294967296) % 4294967296 = A / 4294967296 := by omega
  have ha := Lib.hid (split64 A)
  have x1 : 0 ≤ A % 4294967296 ∧ A % 4294967296 < 4294967296 := by omega
  have x2 : 0 ≤ A / 4294967296 ∧ A / 4294967296 < 4294967296 := by omega
  go_enter Try.func5, Try.ntmps5
  go_wp2_with fail
  refine (eNew d w d0 d1).mono ?_
  rintro e w1 ⟨rfl, rfl⟩
  have A0 := ea_new w tRtc (rk0 d)
  have B0 := trA (tr0 w) (oE tRtc (rk0 d))
  generalize w.alloc (oE tRtc (rk0 d)) = W at *
  have k0 := rk0_ok d0 d1
  have r0 : 0 ≤ (0 + N) % d := Int.emod_nonneg _ (by omega)
  have r1 : (0 + N) % d < d := Int.emod_lt_of_pos _ (by omega)
  have c0 : 0 ≤ min (0 + (0 + N) / d) nev := by have := Int.ediv_nonneg (show 0 ≤ 0 + N by omega) (show 0 ≤ d by omega); unfold nev; omega
  have c1 : min (0 + (0 + N) / d) nev < 18446744073709551616 := by unfold nev; omega
  go_upto_region 6 with (fail)
  rw [hN]
  clear hN
  go_wp2_with fail
  refine (eTick (rk0 d) N _ _ k0 A0 N0 N1).mono ?_
  rw [kb_tick N0]
  rintro e w12 ⟨rfl, a11, ho⟩
  have b13 := off_below B0 ho (Nat.le_refl _) (Nat.le_refl _)
  clear ho A0 B0
  generalize min (0 + (0 + N) / d) nev = c at *
  generalize (0 + N) % d = r at *
  go_wp2_with fail
  refine (eStore (kb d c r 0 0 0) 8 (4294967295) _ _ (kb_ok d0 d1 r0 r1 (by omega) (by omega) c0 c1 (by omega) (by omega) (by omega) (by omega)) a11 (by omega) (by omega) (by omega) (by omega)).mono ?_
  rw [kb_8, show wErrT 8 = 0 from rfl]
  rintro e w15 ⟨rfl, a14, ho⟩
  have b16 := off_below b13 ho (Nat.le_refl _) (Nat.le_refl _)
  clear ho a11 b13
  go_wp2_with fail
  refine (eStore (kb d c r (4294967295) 0 0) 12 (4294967295) _ _ (kb_ok d0 d1 r0 r1 (by omega) (by omega) c0 c1 (by omega) (by omega) (by omega) (by omega)) a14 (by omega) (by omega) (by omega) (by omega)).mono ?_
  rw [kb_12, show wErrT 12 = 0 from rfl, show join 4294967295 4294967295 = 18446744073709551615 from rfl]
  rintro e w18 ⟨rfl, a17, ho⟩
  have b19 := off_below b16 ho (Nat.le_refl _) (Nat.le_refl _)
  clear ho a14 b16
  go_wp2_with fail
  refine (eSeconds (kb d 18446744073709551615 0 (4294967295) 0 0) _ _ a17).mono ?_
  rintro e w21 ⟨rfl, hb⟩
  have a22 := a17.below hb
  have b23 := tr b19 hb
  clear hb a17 b19
  rw [show (kb d 18446744073709551615 0 (4294967295) 0 0).sec = 18446744073709551615 from rfl]
  skip
  go_wp2_with fail
  refine (eRest (kb d 18446744073709551615 0 (4294967295) 0 0) _ _ a22).mono ?_
  rintro e w25 ⟨rfl, hb⟩
  have a26 := a22.below hb
  have b27 := tr b23 hb
  clear hb a22 b23
  rw [show (kb d 18446744073709551615 0 (4294967295) 0 0).rest = 0 from rfl]
  go_wp2_with fail
  refine (eStore (kb d 18446744073709551615 0 (4294967295) 0 0) 20 (A / 4294967296) _ _ (kb_ok d0 d1 (Int.le_refl _) (by omega) (by omega) (by omega) (by omega) (by omega) (by omega) (by omega) (by omega) (by omega)) a26 (by omega) (by omega) (by omega) (by omega)).mono ?_
  rw [kb_20, show wErrT 20 = 0 from rfl]
  rintro e w29 ⟨rfl, a28, ho⟩
  have b30 := off_below b27 ho (Nat.le_refl _) (Nat.le_refl _)
  clear ho a26 b27
  go_wp2_with fail
  refine (eStore (kb d 18446744073709551615 0 (4294967295) 0 (A / 4294967296)) 16 (A % 4294967296) _ _ (kb_ok d0 d1 (Int.le_refl _) (by omega) (by omega) (by omega) (by omega) (by omega) (by omega) (by omega) (by omega) (by omega)) a28 (by omega) (by omega) (by omega) (by omega)).mono ?_
  rw [kb_16, show wErrT 16 = 0 from rfl]
  rintro e w32 ⟨rfl, a31, ho⟩
  have b33 := off_below b30 ho (Nat.le_refl _) (Nat.le_refl _)
  clear ho a28 b30
  go_wp2_with fail
  refine (eStore (kb d 18446744073709551615 0 (4294967295) (A % 4294967296) (A / 4294967296)) 20 (A / 4294967296) _ _ (kb_ok d0 d1 (Int.le_refl _) (by omega) (by omega) (by omega) (by omega) (by omega) (by omega) (by omega) (by omega) (by omega)) a31 (by omega) (by omega) (by omega) (by omega)).mono ?_
  rw [kb_20, show wErrT 20 = 0 from rfl]
  rintro e w35 ⟨rfl, a34, ho⟩
  have b36 := off_below b33 ho (Nat.le_refl _) (Nat.le_refl _)
  clear ho a31 b33
  go_wp2_with fail
  refine (eAlarm (kb d 18446744073709551615 0 (4294967295) (A % 4294967296) (A / 4294967296)) _ _ a34).mono ?_
  rintro e w38 ⟨rfl, hb⟩
  have a39 := a34.below hb
  have b40 := tr b36 hb
  clear hb a34 b36
  rw [show (kb d 18446744073709551615 0 (4294967295) (A % 4294967296) (A / 4294967296)).alarm = A from ha.out]
  have za : (A != A) = false := by simp
  go_wp2_with fail
  refine (eLine (kb d 18446744073709551615 0 (4294967295) (A % 4294967296) (A / 4294967296)) _ _ a39).mono ?_
  rintro e w42 ⟨rfl, hb⟩
  have a43 := a39.below hb
  have b44 := tr b40 hb
  clear hb a39 b40
  rw [show (kb d 18446744073709551615 0 (4294967295) (A % 4294967296) (A / 4294967296)).st = false from rfl]
  go_wp2_with fail
  refine (eStore (kb d 18446744073709551615 0 (4294967295) (A % 4294967296) (A / 4294967296)) 24 1 _ _ (kb_ok d0 d1 (Int.le_refl _) (by omega) (by omega) (by omega) (by omega) (by omega) (by omega) (by omega) (by omega) (by omega)) a43 (by omega) (by omega) (by omega) (by omega)).mono ?_
  rw [kb_24, show wErrT 24 = 0 from rfl, ha.out, decide_eq_true (show A ≤ 18446744073709551615 by omega)]
  rintro e w46 ⟨rfl, a45, ho⟩
  have b47 := off_below b44 ho (Nat.le_refl _) (Nat.le_refl _)
  clear ho a43 b44
  go_wp2_with fail
  refine (eLine (kc d (18446744073709551615) (4294967295) (A % 4294967296) (A / 4294967296) true) _ _ a45).mono ?_
  rintro e w49 ⟨rfl, hb⟩
  have a50 := a45.below hb
  have b51 := tr b47 hb
  clear hb a45 b47
  rw [show (kc d (18446744073709551615) (4294967295) (A % 4294967296) (A / 4294967296) true).st = true from rfl]
  have hc : A ≤ 18446744073709551615 := by omega
  have KT : (kc d (18446744073709551615) (4294967295) (A % 4294967296) (A / 4294967296) true).tick d = kc d (18446744073709551615) (4294967295) (A % 4294967296) (A / 4294967296) true := by
    rcases kc_tick (d := d) (s := 18446744073709551615) (x := 4294967295) (al := A % 4294967296) (ah := A / 4294967296) d0 (by unfold nev; omega) with h | h
    · rw [ha.out, decide_eq_true (show A ≤ 18446744073709551615 by omega), show min (18446744073709551615 + 1) nev = 18446744073709551615 by unfold nev; omega, decide_eq_true (show A ≤ 18446744073709551615 by omega)] at h; exact h
    · rw [ha.out] at h; unfold nev at h; omega
  go_wp2_with fail
  refine (eTick (kc d (18446744073709551615) (4294967295) (A % 4294967296) (A / 4294967296) true) d _ _ ⟨d0, d1, Int.le_refl _, (by show 0 < d; omega), (by show 0 ≤ 4294967295; omega), (by show 4294967295 < 4294967296; omega), (by show 0 ≤ 18446744073709551615; omega), (by show 18446744073709551615 < 18446744073709551616; omega), x1.1, x1.2, x2.1, x2.2⟩ a50 (by omega) (by omega)).mono ?_
  rw [KT]
  rintro e w53 ⟨rfl, a52, ho⟩
  have b54 := off_below b51 ho (Nat.le_refl _) (Nat.le_refl _)
  clear ho a50 b51
  go_wp2_with fail
  refine (eKnown _).mono ?_
  rintro e w56 ⟨rfl, hb⟩
  have a57 := a52.below hb
  have b58 := tr b54 hb
  clear hb a52 b54
  clear KT
  go_wp2_with fail
  refine (eSeconds (kc d (18446744073709551615) (4294967295) (A % 4294967296) (A / 4294967296) true) _ _ a57).mono ?_
  rintro e w60 ⟨rfl, hb⟩
  have a61 := a57.below hb
  have b62 := tr b58 hb
  clear hb a57 b58
  rw [show (kc d (18446744073709551615) (4294967295) (A % 4294967296) (A / 4294967296) true).sec = 18446744073709551615 from rfl]
  go_wp2_with fail
  refine (eSeconds (kc d (18446744073709551615) (4294967295) (A % 4294967296) (A / 4294967296) true) _ _ a61).mono ?_
  rintro e w64 ⟨rfl, hb⟩
  have a65 := a61.below hb
  have b66 := tr b62 hb
  clear hb a61 b62
  rw [show (kc d (18446744073709551615) (4294967295) (A % 4294967296) (A / 4294967296) true).sec = 18446744073709551615 from rfl]
  go_wp2_with fail
  refine (eLine (kc d (18446744073709551615) (4294967295) (A % 4294967296) (A / 4294967296) true) _ _ a65).mono ?_
  rintro e w68 ⟨rfl, hb⟩
  have a69 := a65.below hb
  have b70 := tr b66 hb
  clear hb a65 b66
  rw [show (kc d (18446744073709551615) (4294967295) (A % 4294967296) (A / 4294967296) true).st = true from rfl]
  go_wp2_with fail
  refine (eSeconds (kc d (18446744073709551615) (4294967295) (A % 4294967296) (A / 4294967296) true) _ _ a69).mono ?_
  rintro e w72 ⟨rfl, hb⟩
  have a73 := a69.below hb
  have b74 := tr b70 hb
  clear hb a69 b70
  rw [show (kc d (18446744073709551615) (4294967295) (A % 4294967296) (A / 4294967296) true).sec = 18446744073709551615 from rfl]
  go_wp2_with fail
  go_ret
  exact ⟨rfl, b74⟩
set_option maxRecDepth 100000 in
set_option maxHeartbeats 3200000 in
theorem rtcSets1t1 (w : World) (d : Int) (d0 : 1 ≤ d) (d1 : d < 4294967296) (A n : Int) (a0 : 0 ≤ A) (a1 : A < 18446744073709551616) (n0 : 0 ≤ n) (n1 : n < 18446744073709551616) (S : Int) (s0 : 0 ≤ S) (s1 : S < 18446744073709551615) (hc : A ≤ S) :
    Calls Try.prog 5 #[.int .u32 d, .int .u64 S, .int .u64 A, .bool true, .int .u64 n] w fun e w' => e = .returned (.bool true) ∧ Below w.heap.size w w' := by
  obtain ⟨N, hN⟩ : ∃ N, n % 1099511627776 = N := ⟨_, rfl⟩
  have N0 : 0 ≤ N := by omega
  have N1 : N < 18446744073709551616 := by omega
  have qa : (A / 4294967296) % 4294967296 = A / 4294967296 := by omega
  have ha := Lib.hid (split64 A)
  have x1 : 0 ≤ A % 4294967296 ∧ A % 4294967296 < 4294967296 := by omega
  have x2 : 0 ≤ A / 4294967296 ∧ A / 4294967296 < 4294967296 := by omega
  have hc2 : A ≤ S + 1 := by omega
  have qs : (S / 4294967296) % 4294967296 = S / 4294967296 := by omega
  have hs := Lib.hid (split64 S)
  have y1 : 0 ≤ S % 4294967296 ∧ S % 4294967296 < 4294967296 := by omega
  have y2 : 0 ≤ S / 4294967296 ∧ S / 4294967296 < 4294967296 := by omega
  go_enter Try.func5, Try.ntmps5
  go_wp2_with fail
  refine (eNew d w d0 d1).mono ?_
  rintro e w1 ⟨rfl, rfl⟩
  have A0 := ea_new w tRtc (rk0 d)
  have B0 := trA (tr0 w) (oE tRtc (rk0 d))
  generalize w.alloc (oE tRtc (rk0 d)) = W at *
  have k0 := rk0_ok d0 d1
  have r0 : 0 ≤ (0 + N) % d := Int.emod_nonneg _ (by omega)
  have r1 : (0 + N) % d < d := Int.emod_lt_of_pos _ (by omega)
  have c0 : 0 ≤ min (0 + (0 + N) / d) nev := by have := Int.ediv_nonneg (show 0 ≤ 0 + N by omega) (show 0 ≤ d by omega); unfold nev; omega
  have c1 : min (0 + (0 + N) / d) nev < 18446744073709551616 := by unfold nev; omega
  go_upto_region 6 with (fail)
  rw [hN]
  clear hN
  go_wp2_with fail
  refine (eTick (rk0 d) N _ _ k0 A0 N0 N1).mono ?_
  rw [kb_tick N0]
  rintro e w12 ⟨rfl, a11, ho⟩
  have b13 := off_below B0 ho (Nat.le_refl _) (Nat.le_refl _)
  clear ho A0 B0
  generalize min (0 + (0 + N) / d) nev = c at *
  generalize (0 + N) % d = r at *
  go_wp2_with fail
  refine (eStore (kb d c r 0 0 0) 8 (S % 4294967296) _ _ (kb_ok d0 d1 r0 r1 (by omega) (by omega) c0 c1 (by omega) (by omega) (by omega) (by omega)) a11 (by omega) (by omega) (by omega) (by omega)).mono ?_
  rw [kb_8, show wErrT 8 = 0 from rfl]
  rintro e w15 ⟨rfl, a14, ho⟩
  have b16 := off_below b13 ho (Nat.le_refl _) (Nat.le_refl _)
  clear ho a11 b13
  go_wp2_with fail
  refine (eStore (kb d c r (S % 4294967296) 0 0) 12 (S / 4294967296) _ _ (kb_ok d0 d1 r0 r1 (by omega) (by omega) c0 c1 (by omega) (by omega) (by omega) (by omega)) a14 (by omega) (by omega) (by omega) (by omega)).mono ?_
  rw [kb_12, show wErrT 12 = 0 from rfl, hs.out]
  rintro e w18 ⟨rfl, a17, ho⟩
  have b19 := off_below b16 ho (Nat.le_refl _) (Nat.le_refl _)
  clear ho a14 b16
  go_wp2_with fail
  refine (eSeconds (kb d S 0 (S % 4294967296) 0 0) _ _ a17).mono ?_
  rintro e w21 ⟨rfl, hb⟩
  have a22 := a17.below hb
  have b23 := tr b19 hb
  clear hb a17 b19
  rw [show (kb d S 0 (S % 4294967296) 0 0).sec = S from rfl]
  have zs : (S != S) = false := by simp
  go_wp2_with fail
  refine (eRest (kb d S 0 (S % 4294967296) 0 0) _ _ a22).mono ?_
  rintro e w25 ⟨rfl, hb⟩
  have a26 := a22.below hb
  have b27 := tr b23 hb
  clear hb a22 b23
  rw [show (kb d S 0 (S % 4294967296) 0 0).rest = 0 from rfl]
  go_wp2_with fail
  refine (eStore (kb d S 0 (S % 4294967296) 0 0) 20 (A / 4294967296) _ _ (kb_ok d0 d1 (Int.le_refl _) (by omega) (by omega) (by omega) (by omega) (by omega) (by omega) (by omega) (by omega) (by omega)) a26 (by omega) (by omega) (by omega) (by omega)).mono ?_
  rw [kb_20, show wErrT 20 = 0 from rfl]
  rintro e w29 ⟨rfl, a28, ho⟩
  have b30 := off_below b27 ho (Nat.le_refl _) (Nat.le_refl _)
  clear ho a26 b27
  go_wp2_with fail
  refine (eStore (kb d S 0 (S % 4294967296) 0 (A / 4294967296)) 16 (A % 4294967296) _ _ (kb_ok d0 d1 (Int.le_refl _) (by omega) (by omega) (by omega) (by omega) (by omega) (by omega) (by omega) (by omega) (by omega)) a28 (by omega) (by omega) (by omega) (by omega)).mono ?_
  rw [kb_16, show wErrT 16 = 0 from rfl]
  rintro e w32 ⟨rfl, a31, ho⟩
  have b33 := off_below b30 ho (Nat.le_refl _) (Nat.le_refl _)
  clear ho a28 b30
  go_wp2_with fail
  refine (eStore (kb d S 0 (S % 4294967296) (A % 4294967296) (A / 4294967296)) 20 (A / 4294967296) _ _ (kb_ok d0 d1 (Int.le_refl _) (by omega) (by omega) (by omega) (by omega) (by omega) (by omega) (by omega) (by omega) (by omega)) a31 (by omega) (by omega) (by omega) (by omega)).mono ?_
  rw [kb_20, show wErrT 20 = 0 from rfl]
  rintro e w35 ⟨rfl, a34, ho⟩
  have b36 := off_below b33 ho (Nat.le_refl _) (Nat.le_refl _)
  clear ho a31 b33
  go_wp2_with fail
  refine (eAlarm (kb d S 0 (S % 4294967296) (A % 4294967296) (A / 4294967296)) _ _ a34).mono ?_
  rintro e w38 ⟨rfl, hb⟩
  have a39 := a34.below hb
  have b40 := tr b36 hb
  clear hb a34 b36
  rw [show (kb d S 0 (S % 4294967296) (A % 4294967296) (A / 4294967296)).alarm = A from ha.out]
  have za : (A != A) = false := by simp
  go_wp2_with fail
  refine (eLine (kb d S 0 (S % 4294967296) (A % 4294967296) (A / 4294967296)) _ _ a39).mono ?_
  rintro e w42 ⟨rfl, hb⟩
  have a43 := a39.below hb
  have b44 := tr b40 hb
  clear hb a39 b40
  rw [show (kb d S 0 (S % 4294967296) (A % 4294967296) (A / 4294967296)).st = false from rfl]
  go_wp2_with fail
  refine (eStore (kb d S 0 (S % 4294967296) (A % 4294967296) (A / 4294967296)) 24 1 _ _ (kb_ok d0 d1 (Int.le_refl _) (by omega) (by omega) (by omega) (by omega) (by omega) (by omega) (by omega) (by omega) (by omega)) a43 (by omega) (by omega) (by omega) (by omega)).mono ?_
  rw [kb_24, show wErrT 24 = 0 from rfl, ha.out, decide_eq_true (show A ≤ S by omega)]
  rintro e w46 ⟨rfl, a45, ho⟩
  have b47 := off_below b44 ho (Nat.le_refl _) (Nat.le_refl _)
  clear ho a43 b44
  go_wp2_with fail
  refine (eLine (kc d (S) (S % 4294967296) (A % 4294967296) (A / 4294967296) true) _ _ a45).mono ?_
  rintro e w49 ⟨rfl, hb⟩
  have a50 := a45.below hb
  have b51 := tr b47 hb
  clear hb a45 b47
  rw [show (kc d (S) (S % 4294967296) (A % 4294967296) (A / 4294967296) true).st = true from rfl]
  have KT : (kc d (S) (S % 4294967296) (A % 4294967296) (A / 4294967296) true).tick d = kc d (S + 1) (S % 4294967296) (A % 4294967296) (A / 4294967296) true := by
    rcases kc_tick (d := d) (s := S) (x := S % 4294967296) (al := A % 4294967296) (ah := A / 4294967296) d0 (by unfold nev; omega) with h | h
    · rw [ha.out, decide_eq_true (show A ≤ S by omega), show min (S + 1) nev = S + 1 by unfold nev; omega, decide_eq_true (show A ≤ S + 1 by omega)] at h; exact h
    · rw [ha.out] at h; unfold nev at h; omega
  go_wp2_with fail
  refine (eTick (kc d (S) (S % 4294967296) (A % 4294967296) (A / 4294967296) true) d _ _ ⟨d0, d1, Int.le_refl _, (by show 0 < d; omega), (by show 0 ≤ S % 4294967296; omega), (by show S % 4294967296 < 4294967296; omega), (by show 0 ≤ S; omega), (by show S < 18446744073709551616; omega), x1.1, x1.2, x2.1, x2.2⟩ a50 (by omega) (by omega)).mono ?_
  rw [KT]
  rintro e w53 ⟨rfl, a52, ho⟩
  have b54 := off_below b51 ho (Nat.le_refl _) (Nat.le_refl _)
  clear ho a50 b51
  go_wp2_with fail
  refine (eKnown _).mono ?_
  rintro e w56 ⟨rfl, hb⟩
  have a57 := a52.below hb
  have b58 := tr b54 hb
  clear hb a52 b54
  clear KT
  go_wp2_with fail
  refine (eSeconds (kc d (S + 1) (S % 4294967296) (A % 4294967296) (A / 4294967296) true) _ _ a57).mono ?_
  rintro e w60 ⟨rfl, hb⟩
  have a61 := a57.below hb
  have b62 := tr b58 hb
  clear hb a57 b58
  rw [show (kc d (S + 1) (S % 4294967296) (A % 4294967296) (A / 4294967296) true).sec = S + 1 from rfl]
  have z1 : (S + 1 == S + 1) = true := by simp
  go_wp2_with fail
  refine (eLine (kc d (S + 1) (S % 4294967296) (A % 4294967296) (A / 4294967296) true) _ _ a61).mono ?_
  rintro e w64 ⟨rfl, hb⟩
  have a65 := a61.below hb
  have b66 := tr b62 hb
  clear hb a61 b62
  rw [show (kc d (S + 1) (S % 4294967296) (A % 4294967296) (A / 4294967296) true).st = true from rfl]
  go_wp2_with fail
  refine (eSeconds (kc d (S + 1) (S % 4294967296) (A % 4294967296) (A / 4294967296) true) _ _ a65).mono ?_
  rintro e w68 ⟨rfl, hb⟩
  have a69 := a65.below hb
  have b70 := tr b66 hb
  clear hb a65 b66
  rw [show (kc d (S + 1) (S % 4294967296) (A % 4294967296) (A / 4294967296) true).sec = S + 1 from rfl]
  go_wp2_with fail
  go_ret
  exact ⟨rfl, b70⟩
set_option maxRecDepth 100000 in
set_option maxHeartbeats 3200000 in
theorem rtcSets1t2 (w : World) (d : Int) (d0 : 1 ≤ d) (d1 : d < 4294967296) (A n : Int) (a0 : 0 ≤ A) (a1 : A < 18446744073709551616) (n0 : 0 ≤ n) (n1 : n < 18446744073709551616) (S : Int) (s0 : 0 ≤ S) (s1 : S < 18446744073709551615) (hc : ¬ A ≤ S) (hc2 : A ≤ S + 1) :
    Calls Try.prog 5 #[.int .u32 d, .int .u64 S, .int .u64 A, .bool true, .int .u64 n] w fun e w' => e = .returned (.bool true) ∧ Below w.heap.size w w' := by
  obtain ⟨N, hN⟩ : ∃ N, n % 1099511627776 = N := ⟨_, rfl⟩
  have N0 : 0 ≤ N := by omega
  have N1 : N < 18446744073709551616 := by omega
  have qa : (A / 4294967296) % 4294967296 = A / 4294967296 := by omega
  have ha := Lib.hid (split64 A)
  have x1 : 0 ≤ A % 4294967296 ∧ A % 4294967296 < 4294967296 := by omega
  have x2 : 0 ≤ A / 4294967296 ∧ A / 4294967296 < 4294967296 := by omega
  have qs : (S / 4294967296) % 4294967296 = S / 4294967296 := by omega
  have hs := Lib.hid (split64 S)
  have y1 : 0 ≤ S % 4294967296 ∧ S % 4294967296 < 4294967296 := by omega
  have y2 : 0 ≤ S / 4294967296 ∧ S / 4294967296 < 4294967296 := by omega
  go_enter Try.func5, Try.ntmps5
  go_wp2_with fail
  refine (eNew d w d0 d1).mono ?_
  rintro e w1 ⟨rfl, rfl⟩
  have A0 := ea_new w tRtc (rk0 d)
  have B0 := trA (tr0 w) (oE tRtc (rk0 d))
  generalize w.alloc (oE tRtc (rk0 d)) = W at *
  have k0 := rk0_ok d0 d1
  have r0 : 0 ≤ (0 + N) % d := Int.emod_nonneg _ (by omega)
  have r1 : (0 + N) % d < d := Int.emod_lt_of_pos _ (by omega)
  have c0 : 0 ≤ min (0 + (0 + N) / d) nev := by have := Int.ediv_nonneg (show 0 ≤ 0 + N by omega) (show 0 ≤ d by omega); unfold nev; omega
  have c1 : min (0 + (0 + N) / d) nev < 18446744073709551616 := by unfold nev; omega
  go_upto_region 6 with (fail)
  rw [hN]
  clear hN
  go_wp2_with fail
  refine (eTick (rk0 d) N _ _ k0 A0 N0 N1).mono ?_
  rw [kb_tick N0]
  rintro e w12 ⟨rfl, a11, ho⟩
  have b13 := off_below B0 ho (Nat.le_refl _) (Nat.le_refl _)
  clear ho A0 B0
  generalize min (0 + (0 + N) / d) nev = c at *
  generalize (0 + N) % d = r at *
  go_wp2_with fail
  refine (eStore (kb d c r 0 0 0) 8 (S % 4294967296) _ _ (kb_ok d0 d1 r0 r1 (by omega) (by omega) c0 c1 (by omega) (by omega) (by omega) (by omega)) a11 (by omega) (by omega) (by omega) (by omega)).mono ?_
  rw [kb_8, show wErrT 8 = 0 from rfl]
  rintro e w15 ⟨rfl, a14, ho⟩
  have b16 := off_below b13 ho (Nat.le_refl _) (Nat.le_refl _)
  clear ho a11 b13
  go_wp2_with fail
  refine (eStore (kb d c r (S % 4294967296) 0 0) 12 (S / 4294967296) _ _ (kb_ok d0 d1 r0 r1 (by omega) (by omega) c0 c1 (by omega) (by omega) (by omega) (by omega)) a14 (by omega) (by omega) (by omega) (by omega)).mono ?_
  rw [kb_12, show wErrT 12 = 0 from rfl, hs.out]
  rintro e w18 ⟨rfl, a17, ho⟩
  have b19 := off_below b16 ho (Nat.le_refl _) (Nat.le_refl _)
  clear ho a14 b16
  go_wp2_with fail
  refine (eSeconds (kb d S 0 (S % 4294967296) 0 0) _ _ a17).mono ?_
  rintro e w21 ⟨rfl, hb⟩
  have a22 := a17.below hb
  have b23 := tr b19 hb
  clear hb a17 b19
  rw [show (kb d S 0 (S % 4294967296) 0 0).sec = S from rfl]
  have zs : (S != S) = false := by simp
  go_wp2_with fail
  refine (eRest (kb d S 0 (S % 4294967296) 0 0) _ _ a22).mono ?_
  rintro e w25 ⟨rfl, hb⟩
  have a26 := a22.below hb
  have b27 := tr b23 hb
  clear hb a22 b23
  rw [show (kb d S 0 (S % 4294967296) 0 0).rest = 0 from rfl]
  go_wp2_with fail
  refine (eStore (kb d S 0 (S % 4294967296) 0 0) 20 (A / 4294967296) _ _ (kb_ok d0 d1 (Int.le_refl _) (by omega) (by omega) (by omega) (by omega) (by omega) (by omega) (by omega) (by omega) (by omega)) a26 (by omega) (by omega) (by omega) (by omega)).mono ?_
  rw [kb_20, show wErrT 20 = 0 from rfl]
  rintro e w29 ⟨rfl, a28, ho⟩
  have b30 := off_below b27 ho (Nat.le_refl _) (Nat.le_refl _)
  clear ho a26 b27
  go_wp2_with fail
  refine (eStore (kb d S 0 (S % 4294967296) 0 (A / 4294967296)) 16 (A % 4294967296) _ _ (kb_ok d0 d1 (Int.le_refl _) (by omega) (by omega) (by omega) (by omega) (by omega) (by omega) (by omega) (by omega) (by omega)) a28 (by omega) (by omega) (by omega) (by omega)).mono ?_
  rw [kb_16, show wErrT 16 = 0 from rfl]
  rintro e w32 ⟨rfl, a31, ho⟩
  have b33 := off_below b30 ho (Nat.le_refl _) (Nat.le_refl _)
  clear ho a28 b30
  go_wp2_with fail
  refine (eStore (kb d S 0 (S % 4294967296) (A % 4294967296) (A / 4294967296)) 20 (A / 4294967296) _ _ (kb_ok d0 d1 (Int.le_refl _) (by omega) (by omega) (by omega) (by omega) (by omega) (by omega) (by omega) (by omega) (by omega)) a31 (by omega) (by omega) (by omega) (by omega)).mono ?_
  rw [kb_20, show wErrT 20 = 0 from rfl]
  rintro e w35 ⟨rfl, a34, ho⟩
  have b36 := off_below b33 ho (Nat.le_refl _) (Nat.le_refl _)
  clear ho a31 b33
  go_wp2_with fail
  refine (eAlarm (kb d S 0 (S % 4294967296) (A % 4294967296) (A / 4294967296)) _ _ a34).mono ?_
  rintro e w38 ⟨rfl, hb⟩
  have a39 := a34.below hb
  have b40 := tr b36 hb
  clear hb a34 b36
  rw [show (kb d S 0 (S % 4294967296) (A % 4294967296) (A / 4294967296)).alarm = A from ha.out]
  have za : (A != A) = false := by simp
  go_wp2_with fail
  refine (eLine (kb d S 0 (S % 4294967296) (A % 4294967296) (A / 4294967296)) _ _ a39).mono ?_
  rintro e w42 ⟨rfl, hb⟩
  have a43 := a39.below hb
  have b44 := tr b40 hb
  clear hb a39 b40
  rw [show (kb d S 0 (S % 4294967296) (A % 4294967296) (A / 4294967296)).st = false from rfl]
  go_wp2_with fail
  refine (eStore (kb d S 0 (S % 4294967296) (A % 4294967296) (A / 4294967296)) 24 1 _ _ (kb_ok d0 d1 (Int.le_refl _) (by omega) (by omega) (by omega) (by omega) (by omega) (by omega) (by omega) (by omega) (by omega)) a43 (by omega) (by omega) (by omega) (by omega)).mono ?_
  rw [kb_24, show wErrT 24 = 0 from rfl, ha.out, decide_eq_false (show ¬ A ≤ S by omega)]
  rintro e w46 ⟨rfl, a45, ho⟩
  have b47 := off_below b44 ho (Nat.le_refl _) (Nat.le_refl _)
  clear ho a43 b44
  go_wp2_with fail
  refine (eLine (kc d (S) (S % 4294967296) (A % 4294967296) (A / 4294967296) false) _ _ a45).mono ?_
  rintro e w49 ⟨rfl, hb⟩
  have a50 := a45.below hb
  have b51 := tr b47 hb
  clear hb a45 b47
  rw [show (kc d (S) (S % 4294967296) (A % 4294967296) (A / 4294967296) false).st = false from rfl]
  have KT : (kc d (S) (S % 4294967296) (A % 4294967296) (A / 4294967296) false).tick d = kc d (S + 1) (S % 4294967296) (A % 4294967296) (A / 4294967296) true := by
    rcases kc_tick (d := d) (s := S) (x := S % 4294967296) (al := A % 4294967296) (ah := A / 4294967296) d0 (by unfold nev; omega) with h | h
    · rw [ha.out, decide_eq_false (show ¬ A ≤ S by omega), show min (S + 1) nev = S + 1 by unfold nev; omega, decide_eq_true (show A ≤ S + 1 by omega)] at h; exact h
    · rw [ha.out] at h; unfold nev at h; omega
  go_wp2_with fail
  refine (eTick (kc d (S) (S % 4294967296) (A % 4294967296) (A / 4294967296) false) d _ _ ⟨d0, d1, Int.le_refl _, (by show 0 < d; omega), (by show 0 ≤ S % 4294967296; omega), (by show S % 4294967296 < 4294967296; omega), (by show 0 ≤ S; omega), (by show S < 18446744073709551616; omega), x1.1, x1.2, x2.1, x2.2⟩ a50 (by omega) (by omega)).mono ?_
  rw [KT]
  rintro e w53 ⟨rfl, a52, ho⟩
  have b54 := off_below b51 ho (Nat.le_refl _) (Nat.le_refl _)
  clear ho a50 b51
  go_wp2_with fail
  refine (eKnown _).mono ?_
  rintro e w56 ⟨rfl, hb⟩
  have a57 := a52.below hb
  have b58 := tr b54 hb
  clear hb a52 b54
  clear KT
  go_wp2_with fail
  refine (eSeconds (kc d (S + 1) (S % 4294967296) (A % 4294967296) (A / 4294967296) true) _ _ a57).mono ?_
  rintro e w60 ⟨rfl, hb⟩
  have a61 := a57.below hb
  have b62 := tr b58 hb
  clear hb a57 b58
  rw [show (kc d (S + 1) (S % 4294967296) (A % 4294967296) (A / 4294967296) true).sec = S + 1 from rfl]
  have z1 : (S + 1 == S + 1) = true := by simp
  go_wp2_with fail
  refine (eLine (kc d (S + 1) (S % 4294967296) (A % 4294967296) (A / 4294967296) true) _ _ a61).mono ?_
  rintro e w64 ⟨rfl, hb⟩
  have a65 := a61.below hb
  have b66 := tr b62 hb
  clear hb a61 b62
  rw [show (kc d (S + 1) (S % 4294967296) (A % 4294967296) (A / 4294967296) true).st = true from rfl]
  go_wp2_with fail
  refine (eSeconds (kc d (S + 1) (S % 4294967296) (A % 4294967296) (A / 4294967296) true) _ _ a65).mono ?_
  rintro e w68 ⟨rfl, hb⟩
  have a69 := a65.below hb
  have b70 := tr b66 hb
  clear hb a65 b66
  rw [show (kc d (S + 1) (S % 4294967296) (A % 4294967296) (A / 4294967296) true).sec = S + 1 from rfl]
  go_wp2_with fail
  go_ret
  exact ⟨rfl, b70⟩
set_option maxRecDepth 100000 in
set_option maxHeartbeats 3200000 in
theorem rtcSets1t3 (w : World) (d : Int) (d0 : 1 ≤ d) (d1 : d < 4294967296) (A n : Int) (a0 : 0 ≤ A) (a1 : A < 18446744073709551616) (n0 : 0 ≤ n) (n1 : n < 18446744073709551616) (S : Int) (s0 : 0 ≤ S) (s1 : S < 18446744073709551615) (hc : ¬ A ≤ S) (hc2 : ¬ A ≤ S + 1) :
    Calls Try.prog 5 #[.int .u32 d, .int .u64 S, .int .u64 A, .bool true, .int .u64 n] w fun e w' => e = .returned (.bool true) ∧ Below w.heap.size w w' := by
  obtain ⟨N, hN⟩ : ∃ N, n % 1099511627776 = N := ⟨_, rfl⟩
  have N0 : 0 ≤ N := by omega
  have N1 : N < 18446744073709551616 := by omega
  have qa : (A / 4294967296) % 4294967296 = A / 4294967296 := by omega
  have ha := Lib.hid (split64 A)
  have x1 : 0 ≤ A % 4294967296 ∧ A % 4294967296 < 4294967296 := by omega
  have x2 : 0 ≤ A / 4294967296 ∧ A / 4294967296 < 4294967296 := by omega
  have qs : (S / 4294967296) % 4294967296 = S / 4294967296 := by omega
  have hs := Lib.hid (split64 S)
  have y1 : 0 ≤ S % 4294967296 ∧ S % 4294967296 < 4294967296 := by omega
  have y2 : 0 ≤ S / 4294967296 ∧ S / 4294967296 < 4294967296 := by omega
  go_enter Try.func5, Try.ntmps5
  go_wp2_with fail
  refine (eNew d w d0 d1).mono ?_
  rintro e w1 ⟨rfl, rfl⟩
  have A0 := ea_new w tRtc (rk0 d)
  have B0 := trA (tr0 w) (oE tRtc (rk0 d))
  generalize w.alloc (oE tRtc (rk0 d)) = W at *
  have k0 := rk0_ok d0 d1
  have r0 : 0 ≤ (0 + N) % d := Int.emod_nonneg _ (by omega)
  have r1 : (0 + N) % d < d := Int.emod_lt_of_pos _ (by omega)
  have c0 : 0 ≤ min (0 + (0 + N) / d) nev := by have := Int.ediv_nonneg (show 0 ≤ 0 + N by omega) (show 0 ≤ d by omega); unfold nev; omega
  have c1 : min (0 + (0 + N) / d) nev < 18446744073709551616 := by unfold nev; omega
  go_upto_region 6 with (fail)
  rw [hN]
  clear hN
  go_wp2_with fail
  refine (eTick (rk0 d) N _ _ k0 A0 N0 N1).mono ?_
  rw [kb_tick N0]
  rintro e w12 ⟨rfl, a11, ho⟩
  have b13 := off_below B0 ho (Nat.le_refl _) (Nat.le_refl _)
  clear ho A0 B0
  generalize min (0 + (0 + N) / d) nev = c at *
  generalize (0 + N) % d = r at *
  go_wp2_with fail
  refine (eStore (kb d c r 0 0 0) 8 (S % 4294967296) _ _ (kb_ok d0 d1 r0 r1 (by omega) (by omega) c0 c1 (by omega) (by omega) (by omega) (by omega)) a11 (by omega) (by omega) (by omega) (by omega)).mono ?_
  rw [kb_8, show wErrT 8 = 0 from rfl]
  rintro e w15 ⟨rfl, a14, ho⟩
  have b16 := off_below b13 ho (Nat.le_refl _) (Nat.le_refl _)
  clear ho a11 b13
  go_wp2_with fail
  refine (eStore (kb d c r (S % 4294967296) 0 0) 12 (S / 4294967296) _ _ (kb_ok d0 d1 r0 r1 (by omega) (by omega) c0 c1 (by omega) (by omega) (by omega) (by omega)) a14 (by omega) (by omega) (by omega) (by omega)).mono ?_
  rw [kb_12, show wErrT 12 = 0 from rfl, hs.out]
  rintro e w18 ⟨rfl, a17, ho⟩
  have b19 := off_below b16 ho (Nat.le_refl _) (Nat.le_refl _)
  clear ho a14 b16
  go_wp2_with fail
  refine (eSeconds (kb d S 0 (S % 4294967296) 0 0) _ _ a17).mono ?_
  rintro e w21 ⟨rfl, hb⟩
  have a22 := a17.below hb
  have b23 := tr b19 hb
  clear hb a17 b19
  rw [show (kb d S 0 (S % 4294967296) 0 0).sec = S from rfl]
  have zs : (S != S) = false := by simp
  go_wp2_with fail
  refine (eRest (kb d S 0 (S % 4294967296) 0 0) _ _ a22).mono ?_
  rintro e w25 ⟨rfl, hb⟩
  have a26 := a22.below hb
  have b27 := tr b23 hb
  clear hb a22 b23
  rw [show (kb d S 0 (S % 4294967296) 0 0).rest = 0 from rfl]
  go_wp2_with fail
  refine (eStore (kb d S 0 (S % 4294967296) 0 0) 20 (A / 4294967296) _ _ (kb_ok d0 d1 (Int.le_refl _) (by omega) (by omega) (by omega) (by omega) (by omega) (by omega) (by omega) (by omega) (by omega)) a26 (by omega) (by omega) (by omega) (by omega)).mono ?_
  rw [kb_20, show wErrT 20 = 0 from rfl]
  rintro e w29 ⟨rfl, a28, ho⟩
  have b30 := off_below b27 ho (Nat.le_refl _) (Nat.le_refl _)
  clear ho a26 b27
  go_wp2_with fail
  refine (eStore (kb d S 0 (S % 4294967296) 0 (A / 4294967296)) 16 (A % 4294967296) _ _ (kb_ok d0 d1 (Int.le_refl _) (by omega) (by omega) (by omega) (by omega) (by omega) (by omega) (by omega) (by omega) (by omega)) a28 (by omega) (by omega) (by omega) (by omega)).mono ?_
  rw [kb_16, show wErrT 16 = 0 from rfl]
  rintro e w32 ⟨rfl, a31, ho⟩
  have b33 := off_below b30 ho (Nat.le_refl _) (Nat.le_refl _)
  clear ho a28 b30
  go_wp2_with fail
  refine (eStore (kb d S 0 (S % 4294967296) (A % 4294967296) (A / 4294967296)) 20 (A / 4294967296) _ _ (kb_ok d0 d1 (Int.le_refl _) (by omega) (by omega) (by omega) (by omega) (by omega) (by omega) (by omega) (by omega) (by omega)) a31 (by omega) (by omega) (by omega) (by omega)).mono ?_
  rw [kb_20, show wErrT 20 = 0 from rfl]
  rintro e w35 ⟨rfl, a34, ho⟩
  have b36 := off_below b33 ho (Nat.le_refl _) (Nat.le_refl _)
  clear ho a31 b33
  go_wp2_with fail
  refine (eAlarm (kb d S 0 (S % 4294967296) (A % 4294967296) (A / 4294967296)) _ _ a34).mono ?_
  rintro e w38 ⟨rfl, hb⟩
  have a39 := a34.below hb
  have b40 := tr b36 hb
  clear hb a34 b36
  rw [show (kb d S 0 (S % 4294967296) (A % 4294967296) (A / 4294967296)).alarm = A from ha.out]
  have za : (A != A) = false := by simp
  go_wp2_with fail
  refine (eLine (kb d S 0 (S % 4294967296) (A % 4294967296) (A / 4294967296)) _ _ a39).mono ?_
  rintro e w42 ⟨rfl, hb⟩
  have a43 := a39.below hb
  have b44 := tr b40 hb
  clear hb a39 b40
  rw [show (kb d S 0 (S % 4294967296) (A % 4294967296) (A / 4294967296)).st = false from rfl]
  go_wp2_with fail
  refine (eStore (kb d S 0 (S % 4294967296) (A % 4294967296) (A / 4294967296)) 24 1 _ _ (kb_ok d0 d1 (Int.le_refl _) (by omega) (by omega) (by omega) (by omega) (by omega) (by omega) (by omega) (by omega) (by omega)) a43 (by omega) (by omega) (by omega) (by omega)).mono ?_
  rw [kb_24, show wErrT 24 = 0 from rfl, ha.out, decide_eq_false (show ¬ A ≤ S by omega)]
  rintro e w46 ⟨rfl, a45, ho⟩
  have b47 := off_below b44 ho (Nat.le_refl _) (Nat.le_refl _)
  clear ho a43 b44
  go_wp2_with fail
  refine (eLine (kc d (S) (S % 4294967296) (A % 4294967296) (A / 4294967296) false) _ _ a45).mono ?_
  rintro e w49 ⟨rfl, hb⟩
  have a50 := a45.below hb
  have b51 := tr b47 hb
  clear hb a45 b47
  rw [show (kc d (S) (S % 4294967296) (A % 4294967296) (A / 4294967296) false).st = false from rfl]
  have KT : (kc d (S) (S % 4294967296) (A % 4294967296) (A / 4294967296) false).tick d = kc d (S + 1) (S % 4294967296) (A % 4294967296) (A / 4294967296) false := by
    rcases kc_tick (d := d) (s := S) (x := S % 4294967296) (al := A % 4294967296) (ah := A / 4294967296) d0 (by unfold nev; omega) with h | h
    · rw [ha.out, decide_eq_false (show ¬ A ≤ S by omega), show min (S + 1) nev = S + 1 by unfold nev; omega, decide_eq_false (show ¬ A ≤ S + 1 by omega)] at h; exact h
    · rw [ha.out] at h; unfold nev at h; omega
  go_wp2_with fail
  refine (eTick (kc d (S) (S % 4294967296) (A % 4294967296) (A / 4294967296) false) d _ _ ⟨d0, d1, Int.le_refl _, (by show 0 < d; omega), (by show 0 ≤ S % 4294967296; omega), (by show S % 4294967296 < 4294967296; omega), (by show 0 ≤ S; omega), (by show S < 18446744073709551616; omega), x1.1, x1.2, x2.1, x2.2⟩ a50 (by omega) (by omega)).mono ?_
  rw [KT]
  rintro e w53 ⟨rfl, a52, ho⟩
  have b54 := off_below b51 ho (Nat.le_refl _) (Nat.le_refl _)
  clear ho a50 b51
  go_wp2_with fail
  refine (eKnown _).mono ?_
  rintro e w56 ⟨rfl, hb⟩
  have a57 := a52.below hb
  have b58 := tr b54 hb
  clear hb a52 b54
  clear KT
  go_wp2_with fail
  refine (eSeconds (kc d (S + 1) (S % 4294967296) (A % 4294967296) (A / 4294967296) false) _ _ a57).mono ?_
  rintro e w60 ⟨rfl, hb⟩
  have a61 := a57.below hb
  have b62 := tr b58 hb
  clear hb a57 b58
  rw [show (kc d (S + 1) (S % 4294967296) (A % 4294967296) (A / 4294967296) false).sec = S + 1 from rfl]
  have z1 : (S + 1 == S + 1) = true := by simp
  go_wp2_with fail
  refine (eLine (kc d (S + 1) (S % 4294967296) (A % 4294967296) (A / 4294967296) false) _ _ a61).mono ?_
  rintro e w64 ⟨rfl, hb⟩
  have a65 := a61.below hb
  have b66 := tr b62 hb
  clear hb a61 b62
  rw [show (kc d (S + 1) (S % 4294967296) (A % 4294967296) (A / 4294967296) false).st = false from rfl]
  go_wp2_with fail
  refine (eSeconds (kc d (S + 1) (S % 4294967296) (A % 4294967296) (A / 4294967296) false) _ _ a65).mono ?_
  rintro e w68 ⟨rfl, hb⟩
  have a69 := a65.below hb
  have b70 := tr b66 hb
  clear hb a65 b66
  rw [show (kc d (S + 1) (S % 4294967296) (A % 4294967296) (A / 4294967296) false).sec = S + 1 from rfl]
  go_wp2_with fail
  go_ret
  exact ⟨ret_bool (by simp; omega), b70⟩
theorem rtcSets (w : World) (d S A n : Int) (u : Bool) (d0 : 0 ≤ d) (d1 : d < 4294967296) (s0 : 0 ≤ S) (s1 : S < 18446744073709551616) (a0 : 0 ≤ A) (a1 : A < 18446744073709551616) (n0 : 0 ≤ n) (n1 : n < 18446744073709551616) :
    Calls Try.prog 5 #[.int .u32 d, .int .u64 S, .int .u64 A, .bool u, .int .u64 n] w fun e w' => e = .returned (.bool true) ∧ Below w.heap.size w w' := by
  have hd : d = 0 ∨ 1 ≤ d := by omega
  by_cases hs : S = 18446744073709551615
  · subst hs
    rcases hd with rfl | hd <;> cases u
    · exact rtcSets0f0 w A n a0 a1 n0 n1
    · exact rtcSets0t0 w A n a0 a1 n0 n1
    · exact rtcSets1f0 w d hd d1 A n a0 a1 n0 n1
    · exact rtcSets1t0 w d hd d1 A n a0 a1 n0 n1
  · have s2 : S < 18446744073709551615 := by omega
    by_cases hc : A ≤ S
    · rcases hd with rfl | hd <;> cases u
      · exact rtcSets0f1 w A n a0 a1 n0 n1 S s0 s2 hc
      · exact rtcSets0t1 w A n a0 a1 n0 n1 S s0 s2 hc
      · exact rtcSets1f1 w d hd d1 A n a0 a1 n0 n1 S s0 s2 hc
      · exact rtcSets1t1 w d hd d1 A n a0 a1 n0 n1 S s0 s2 hc
    · by_cases hc2 : A ≤ S + 1
      · rcases hd with rfl | hd <;> cases u
        · exact rtcSets0f2 w A n a0 a1 n0 n1 S s0 s2 hc hc2
        · exact rtcSets0t2 w A n a0 a1 n0 n1 S s0 s2 hc hc2
        · exact rtcSets1f2 w d hd d1 A n a0 a1 n0 n1 S s0 s2 hc hc2
        · exact rtcSets1t2 w d hd d1 A n a0 a1 n0 n1 S s0 s2 hc hc2
      · rcases hd with rfl | hd <;> cases u
        · exact rtcSets0f3 w A n a0 a1 n0 n1 S s0 s2 hc hc2
        · exact rtcSets0t3 w A n a0 a1 n0 n1 S s0 s2 hc hc2
        · exact rtcSets1f3 w d hd d1 A n a0 a1 n0 n1 S s0 s2 hc hc2
        · exact rtcSets1t3 w d hd d1 A n a0 a1 n0 n1 S s0 s2 hc hc2
end Go.Proofs.Yteaanlemmhnpgaa.B
