/- Several texts in one: Layer 8: what a Wdog's stores, ticks, Reset and Copy do. The document's own answers of layer 10: a clock's eight cells, by value. -/
import Derived.Test.YtcgmnjajodegmaaGreatZNab
import Derived.Test.YtcgmnjajodegmaaGreatZNac
import Derived.Test.YtcgmnjajodegmaaGreatZNal
import Derived.Test.YtcgmnjajodegmaaGreatZNan
namespace Go.Proofs.YtcgmnjajodegmaaGreat.B
set_option linter.unusedVariables false
set_option linter.unusedSimpArgs false
open Go.ChangeShapes Go.WideShapes Go.RowKit Go.Sort
theorem offW_row (w : World) (p : Nat) (cs : Array Value) : Off (· = p) w (w.setRow p cs) := ⟨rfl, rfl, rfl, by simp, fun k _ hs => setRow_other w p k cs hs⟩
theorem key_arm {t : Wd} {v : Int} (hen : t.en = true) (h : v = 23130) : t.key v = { t with ar := true } := by unfold Wd.key; rw [if_neg (by rw [hen]; simp), if_pos h]
theorem key_early {t : Wd} {v : Int} (hen : t.en = true) (h : v = 42405) (ha : t.ar = true) (hs : t.si < t.cl) : t.key v = { t with fa := 4 } := by
  unfold Wd.key; rw [if_neg (by rw [hen]; simp), if_neg (by omega), if_pos ⟨h, ha⟩, if_pos hs]
theorem key_feed {t : Wd} {v : Int} (hen : t.en = true) (h : v = 42405) (ha : t.ar = true) (hs : ¬ t.si < t.cl) : t.key v = { t with si := 0, ar := false } := by
  unfold Wd.key; rw [if_neg (by rw [hen]; simp), if_neg (by omega), if_pos ⟨h, ha⟩, if_neg hs]
theorem key_wrong {t : Wd} {v : Int} (hen : t.en = true) (h : v ≠ 23130) (ha : ¬ (v = 42405 ∧ t.ar = true)) (hs : t.si < t.cl) : t.key v = { t with fa := 8 } := by
  unfold Wd.key; rw [if_neg (by rw [hen]; simp), if_neg h, if_neg ha, if_pos hs]
theorem key_un {t : Wd} {v : Int} (hen : t.en = true) (h : v ≠ 23130) (ha : ¬ (v = 42405 ∧ t.ar = true)) (hs : ¬ t.si < t.cl) : t.key v = { t with ar := false } := by
  unfold Wd.key; rw [if_neg (by rw [hen]; simp), if_neg h, if_neg ha, if_neg hs]
set_option maxHeartbeats 1600000 in
theorem dTurn (t : Wd) (v : Int) (p : Nat) (w : World) (h : t.ok) (a : DAt w p t) (hen : t.en = true) (v0 : 0 ≤ v) (v1 : v < 4294967296) :
    Calls Tryz.prog 239 #[.pointer (some ⟨p, 0, none⟩), .int .u32 v] w fun e w' => e = .returned (.tuple #[]) ∧ DAt w' p (t.key v) ∧ Off (· = p) w w' := by
  obtain ⟨R, hR⟩ : ∃ R, t.key v = R := ⟨_, rfl⟩
  rw [hR]
  have HR := Lib.hid hR
  clear hR
  have x3 := a.c3
  have x5 := a.c5
  have c0 := h.c0
  have c1 := h.c1
  have s0 := h.s0
  have hl := a.lt
  clear h
  go_enter Tryz.func239, Tryz.ntmps239
  go_wp2_with fail
  have hg := gcell
  refine wp_region_quiet_below (by kernel_rfl) (by kernel_rfl) ?_
  repeat (go_big_quiet_step (fail))
  refine wpQuiet_nil ?_
  intro _ hw'
  obtain ⟨⟨dq, osq⟩, hw''⟩ := hw'
  subst hw''
  have hbr := below_regrown w dq osq
  have ho := Off.ofBelow (S := (· = p)) hbr
  have A := a.below hbr
  clear a hbr hg x3 x5 hl c0 c1 s0
  dsimp only at A ho ⊢
  generalize grow (redrawn w dq) osq = W at *
  obtain ⟨sh, hsh⟩ : ∃ b, decide (t.si < t.cl) = b := ⟨_, rfl⟩
  simp only [hsh]
  have x2 := A.c2
  have x5 := A.c5
  have x6 := A.c6
  have f2 := A.free 2
  have f5 := A.free 5
  have f6 := A.free 6
  by_cases h1 : v = 23130
  · subst h1
    go_wp2_with fail
    go_end0
    exact ⟨rfl, by rw [← HR.out, key_arm hen rfl]; exact A.s6 true, ho.trans (off_set _ _ _ _)⟩
  · have q1 : (v == 23130) = false := by simpa using h1
    by_cases h2 : v = 42405
    · subst h2
      obtain ⟨ar, har⟩ : ∃ b, t.ar = b := ⟨_, rfl⟩
      rw [har] at x6
      cases ar <;> cases sh
      · go_wp2_with fail
        go_end0
        exact ⟨rfl, by rw [← HR.out, key_un hen (by omega) (by rw [har]; simp) (by simpa using hsh)]; exact A.s6 false, ho.trans (off_set _ _ _ _)⟩
      · go_wp2_with fail
        go_end0
        exact ⟨rfl, by rw [← HR.out, key_wrong hen (by omega) (by rw [har]; simp) (by simpa using hsh)]; exact A.s2 8, ho.trans (off_set _ _ _ _)⟩
      · go_wp2_with fail
        go_end0
        exact ⟨rfl, by rw [← HR.out, key_feed hen rfl har (by simpa using hsh)]; exact (A.s5 0).s6 false, (ho.trans (off_set _ _ _ _)).trans (off_set _ _ _ _)⟩
      · go_wp2_with fail
        go_end0
        exact ⟨rfl, by rw [← HR.out, key_early hen rfl har (by simpa using hsh)]; exact A.s2 4, ho.trans (off_set _ _ _ _)⟩
    · have q2 : (v == 42405) = false := by simpa using h2
      cases sh
      · go_wp2_with fail
        go_end0
        exact ⟨rfl, by rw [← HR.out, key_un hen h1 (fun e => h2 e.1) (by simpa using hsh)]; exact A.s6 false, ho.trans (off_set _ _ _ _)⟩
      · go_wp2_with fail
        go_end0
        exact ⟨rfl, by rw [← HR.out, key_wrong hen h1 (fun e => h2 e.1) (by simpa using hsh)]; exact A.s2 8, ho.trans (off_set _ _ _ _)⟩
theorem field_en (v : Int) (v0 : 0 ≤ v) : field v 0 1 = v % 2 := by
  unfold field
  rw [if_pos (by decide), show (0 : Int).toNat = 0 from rfl, show (2 : Nat) ^ min (1 : Int).toNat 32 = 2 by decide, Nat.pow_zero, Nat.div_one]; omega
theorem field_lk (v : Int) (v0 : 0 ≤ v) : field v 1 1 = v / 2 % 2 := by
  unfold field
  rw [if_pos (by decide), show (2 : Nat) ^ (1 : Int).toNat = 2 by decide, show (2 : Nat) ^ min (1 : Int).toNat 32 = 2 by decide]; omega
theorem ctl_on {t : Wd} {v : Int} (hl : t.lk = false) (he : t.en = false) (hv : v % 2 = 1) (hc : t.cl < t.tot) : t.ctlPut v = { t with en := true, si := 0, ar := false, lk := (v / 2 % 2 == 1) } := by
  unfold Wd.ctlPut Wd.ctlTo; rw [if_neg (by rw [hl]; simp), if_pos ⟨he, hv, hc⟩]
theorem ctl_off {t : Wd} {v : Int} (hl : t.lk = false) (he : t.en = true) (hv : v % 2 = 0) : t.ctlPut v = { t with en := false, si := 0, ar := false, lk := (v / 2 % 2 == 1) } := by
  unfold Wd.ctlPut Wd.ctlTo; rw [if_neg (by rw [hl]; simp), if_neg (by rw [he]; simp), if_pos ⟨he, hv⟩]
theorem ctl_same {t : Wd} {v : Int} (hl : t.lk = false) (h1 : ¬ (t.en = false ∧ v % 2 = 1 ∧ t.cl < t.tot)) (h2 : ¬ (t.en = true ∧ v % 2 = 0)) : t.ctlPut v = { t with lk := (v / 2 % 2 == 1) } := by
  unfold Wd.ctlPut Wd.ctlTo; rw [if_neg (by rw [hl]; simp), if_neg h1, if_neg h2]
set_option maxHeartbeats 1600000 in
theorem dOrder (t : Wd) (v : Int) (p : Nat) (w : World) (h : t.ok) (a : DAt w p t) (hlk : t.lk = false) (v0 : 0 ≤ v) (v1 : v < 4294967296) :
    Calls Tryz.prog 237 #[.pointer (some ⟨p, 0, none⟩), .int .u32 v] w fun e w' => e = .returned (.tuple #[]) ∧ DAt w' p (t.ctlPut v) ∧ Off (· = p) w w' := by
  obtain ⟨R, hR⟩ : ∃ R, t.ctlPut v = R := ⟨_, rfl⟩
  rw [hR]
  have HR := Lib.hid hR
  clear hR
  have F0 := Lib.hid (fun w => by have := Field v 0 1 w v0 v1 (by omega) (by omega); rw [field_en v v0] at this; exact this)
  have F1 := Lib.hid (fun w => by have := Field v 1 1 w v0 v1 (by omega) (by omega); rw [field_lk v v0] at this; exact this)
  obtain ⟨l, hlv⟩ : ∃ b, (v / 2 % 2 == 1) = b := ⟨_, rfl⟩
  obtain ⟨e, hev⟩ : ∃ b, (v % 2 == 1) = b := ⟨_, rfl⟩
  obtain ⟨lt, hlt⟩ : ∃ b, decide (t.cl < t.tot) = b := ⟨_, rfl⟩
  obtain ⟨en, hen⟩ : ∃ b, t.en = b := ⟨_, rfl⟩
  go_enter Tryz.func237, Tryz.ntmps237
  go_wp2_with fail
  refine (F0.out _).mono ?_
  rintro e0 w1 ⟨rfl, k, rfl⟩
  have hb := trN (tr0 w) k
  have ho := Off.ofBelow (S := (· = p)) hb
  have A := a.below hb
  clear a hb
  generalize w.drewN k = W0 at *
  have hl := A.lt
  have x3 := A.c3
  have x4 := A.c4
  have hg := gcell
  cases e
  · go_wp2_with fail
    refine wp_region_quiet_below (by kernel_rfl) (by kernel_rfl) ?_
    repeat (go_big_quiet_step (fail))
    refine wpQuiet_nil ?_
    intro _ hw'
    obtain ⟨⟨dq, osq⟩, hw''⟩ := hw'
    subst hw''
    have hbr := below_regrown W0 dq osq
    have ho1 := ho.trans (Off.ofBelow (S := (· = p)) hbr)
    have A1 := A.below hbr
    clear A ho hbr hg hl x3 x4
    dsimp only at A1 ho1 ⊢
    generalize grow (redrawn W0 dq) osq = W1 at *
    have x0 := A1.c0
    have x1 := A1.c1
    have x5 := A1.c5
    have x6 := A1.c6
    have f0 := A1.free 0
    have f5 := A1.free 5
    have f6 := A1.free 6
    rw [hen] at x0
    cases en
    · go_wp2_with fail
      refine (F1.out _).mono ?_
      rintro e1 w2 ⟨rfl, k2, rfl⟩
      have A2 := A1.below (trN (tr0 W1) k2)
      have ho2 := ho1.trans (Off.ofBelow (S := (· = p)) (trN (tr0 W1) k2))
      clear A1 ho1 x0 x1 x5 x6 f0 f5 f6
      generalize W1.drewN k2 = W2 at *
      have x1 := A2.c1
      have f1 := A2.free 1
      go_wp2_with fail
      go_end0
      exact ⟨rfl, by rw [← HR.out, ctl_same hlk (fun h => by simp at hev; omega) (fun h => by rw [hen] at h; simp at h), hlv]; exact A2.s1 l, ho2.trans (off_set _ _ _ _)⟩
    · have A3 : DAt (((W1.setCell ⟨p, 0, none⟩ (.bool false)).setCell ⟨p, 5, none⟩ (.int .u64 0)).setCell ⟨p, 6, none⟩ (.bool false)) p { t with en := false, si := 0, ar := false } := ((A1.s0 false).s5 0).s6 false
      have ho3 := ((ho1.trans (off_set W1 p 0 (.bool false))).trans (off_set _ p 5 (.int .u64 0))).trans (off_set _ p 6 (.bool false))
      go_wp2_with fail
      refine (F1.out _).mono ?_
      rintro e1 w2 ⟨rfl, k2, rfl⟩
      clear A1 ho1 x0 x1 x5 x6 f0 f5 f6
      generalize (((W1.setCell ⟨p, 0, none⟩ (.bool false)).setCell ⟨p, 5, none⟩ (.int .u64 0)).setCell ⟨p, 6, none⟩ (.bool false)) = W4 at *
      have A2 := A3.below (trN (tr0 W4) k2)
      have ho2 := ho3.trans (Off.ofBelow (S := (· = p)) (trN (tr0 W4) k2))
      clear A3 ho3
      generalize W4.drewN k2 = W2 at *
      have x1 := A2.c1
      have f1 := A2.free 1
      go_wp2_with fail
      go_end0
      exact ⟨rfl, by rw [← HR.out, ctl_off hlk hen (by simp at hev; omega), hlv]; exact A2.s1 l, ho2.trans (off_set _ _ _ _)⟩
  · cases lt
    all_goals
      go_wp2_with fail
      refine wp_region_quiet_below (by kernel_rfl) (by kernel_rfl) ?_
      repeat (go_big_quiet_step (fail))
      refine wpQuiet_nil ?_
      intro _ hw'
      obtain ⟨⟨dq, osq⟩, hw''⟩ := hw'
      subst hw''
      have hbr := below_regrown W0 dq osq
      have ho1 := ho.trans (Off.ofBelow (S := (· = p)) hbr)
      have A1 := A.below hbr
      clear A ho hbr hg hl x3 x4
      dsimp only at A1 ho1 ⊢
      generalize grow (redrawn W0 dq) osq = W1 at *
      have x0 := A1.c0
      have x1 := A1.c1
      have x5 := A1.c5
      have x6 := A1.c6
      have f0 := A1.free 0
      have f5 := A1.free 5
      have f6 := A1.free 6
      rw [hen] at x0
      cases en
    · go_wp2_with fail
      refine (F1.out _).mono ?_
      rintro e1 w2 ⟨rfl, k2, rfl⟩
      have A2 := A1.below (trN (tr0 W1) k2)
      have ho2 := ho1.trans (Off.ofBelow (S := (· = p)) (trN (tr0 W1) k2))
      clear A1 ho1 x0 x1 x5 x6 f0 f5 f6
      generalize W1.drewN k2 = W2 at *
      have x1 := A2.c1
      have f1 := A2.free 1
      go_wp2_with fail
      go_end0
      exact ⟨rfl, by rw [← HR.out, ctl_same hlk (fun h => by simp at hlt; omega) (fun h => by rw [hen] at h; simp at h), hlv]; exact A2.s1 l, ho2.trans (off_set _ _ _ _)⟩
    · go_wp2_with fail
      refine (F1.out _).mono ?_
      rintro e1 w2 ⟨rfl, k2, rfl⟩
      have A2 := A1.below (trN (tr0 W1) k2)
      have ho2 := ho1.trans (Off.ofBelow (S := (· = p)) (trN (tr0 W1) k2))
      clear A1 ho1 x0 x1 x5 x6 f0 f5 f6
      generalize W1.drewN k2 = W2 at *
      have x1 := A2.c1
      have f1 := A2.free 1
      go_wp2_with fail
      go_end0
      exact ⟨rfl, by rw [← HR.out, ctl_same hlk (fun h => by rw [hen] at h; simp at h) (fun h => by simp at hev; omega), hlv]; exact A2.s1 l, ho2.trans (off_set _ _ _ _)⟩
    · have A3 : DAt (((W1.setCell ⟨p, 0, none⟩ (.bool true)).setCell ⟨p, 5, none⟩ (.int .u64 0)).setCell ⟨p, 6, none⟩ (.bool false)) p { t with en := true, si := 0, ar := false } := ((A1.s0 true).s5 0).s6 false
      have ho3 := ((ho1.trans (off_set W1 p 0 (.bool true))).trans (off_set _ p 5 (.int .u64 0))).trans (off_set _ p 6 (.bool false))
      go_wp2_with fail
      refine (F1.out _).mono ?_
      rintro e1 w2 ⟨rfl, k2, rfl⟩
      clear A1 ho1 x0 x1 x5 x6 f0 f5 f6
      generalize (((W1.setCell ⟨p, 0, none⟩ (.bool true)).setCell ⟨p, 5, none⟩ (.int .u64 0)).setCell ⟨p, 6, none⟩ (.bool false)) = W4 at *
      have A2 := A3.below (trN (tr0 W4) k2)
      have ho2 := ho3.trans (Off.ofBelow (S := (· = p)) (trN (tr0 W4) k2))
      clear A3 ho3
      generalize W4.drewN k2 = W2 at *
      have x1 := A2.c1
      have f1 := A2.free 1
      go_wp2_with fail
      go_end0
      exact ⟨rfl, by rw [← HR.out, ctl_on hlk hen (by simpa using hev) (by simpa using hlt), hlv]; exact A2.s1 l, ho2.trans (off_set _ _ _ _)⟩
    · go_wp2_with fail
      refine (F1.out _).mono ?_
      rintro e1 w2 ⟨rfl, k2, rfl⟩
      have A2 := A1.below (trN (tr0 W1) k2)
      have ho2 := ho1.trans (Off.ofBelow (S := (· = p)) (trN (tr0 W1) k2))
      clear A1 ho1 x0 x1 x5 x6 f0 f5 f6
      generalize W1.drewN k2 = W2 at *
      have x1 := A2.c1
      have f1 := A2.free 1
      go_wp2_with fail
      go_end0
      exact ⟨rfl, by rw [← HR.out, ctl_same hlk (fun h => by rw [hen] at h; simp at h) (fun h => by simp at hev; omega), hlv]; exact A2.s1 l, ho2.trans (off_set _ _ _ _)⟩
theorem free_eq (t : Wd) (h : t.fa = 0) : decide (t.en = false ∧ t.lk = false ∧ t.fa = 0) = (!(t.lk || t.en)) := by cases t.en <;> cases t.lk <;> simp [h]
set_option maxHeartbeats 1600000 in
theorem dWrite (t : Wd) (o v : Int) (p : Nat) (w : World) (h : t.ok) (a : DAt w p t) (hf : t.fa = 0) (ho : o = 0 ∨ o = 4 ∨ o = 8 ∨ o = 12) (v0 : 0 ≤ v) (v1 : v < 4294967296) :
    Calls Tryz.prog 236 #[.pointer (some ⟨p, 0, none⟩), .int .u32 o, .int .u32 v] w fun e w' => e = .returned (.tuple #[]) ∧ DAt w' p (t.sto o v) ∧ Off (· = p) w w' := by
  have x0 := a.c0
  have x1 := a.c1
  have x2 := a.c2
  have x3 := a.c3
  have x4 := a.c4
  have f3 := a.free 3
  have f4 := a.free 4
  have hfr := dFree t w
  rw [free_eq t hf] at hfr
  have hfr := Lib.hid hfr
  rcases ho with rfl | rfl | rfl | rfl
  · have hs : t.sto 0 v = t.ctlPut v := by unfold Wd.sto; rw [if_neg (by simp [hf]), if_pos rfl]
    rw [hs]
    have hlk0 : t.lk = true → t.ctlPut v = t := fun e => by unfold Wd.ctlPut; rw [if_pos e]
    obtain ⟨lk, hlk⟩ : ∃ b, t.lk = b := ⟨_, rfl⟩
    rw [hlk] at x1
    cases lk
    · go_enter Tryz.func236, Tryz.ntmps236
      go_wp2_with fail
      refine (dOrder t v p w h a hlk v0 v1).mono ?_
      rintro e w1 ⟨rfl, A, ho⟩
      go_wp2_with fail
      go_end0
      exact ⟨rfl, A, ho⟩
    · rw [hlk0 hlk]
      clear hlk0
      go_enter Tryz.func236, Tryz.ntmps236
      go_wp2_with fail
      go_end0
      exact ⟨rfl, a, Off.refl _ _⟩
  · have hs : t.sto 4 v = (if (t.lk || t.en) = true then t else { t with cl := v }) := by unfold Wd.sto; rw [if_neg (by simp [hf]), if_neg (by decide), if_pos rfl]; simp only [Bool.or_eq_true]
    rw [hs]
    clear hs hf
    cases hq : (t.lk || t.en)
    all_goals
      rw [hq] at hfr
      go_enter Tryz.func236, Tryz.ntmps236
      go_wp2_with fail
      refine (hfr.out).mono ?_
      rintro e w1 ⟨rfl, hb⟩
      have A := a.below hb
      have ho := Off.ofBelow (S := (· = p)) hb
      clear a hb hfr x0 x1 x2 x3 x4 f3 f4
      have x3 := A.c3
      have f3 := A.free 3
      go_wp2_with fail
      go_end0
    · exact ⟨rfl, A.s3 v, ho.trans (off_set _ _ _ _)⟩
    · exact ⟨rfl, A, ho⟩
  · have hs : t.sto 8 v = (if (t.lk || t.en) = true then t else { t with tot := v }) := by unfold Wd.sto; rw [if_neg (by simp [hf]), if_neg (by decide), if_neg (by decide), if_pos rfl]; simp only [Bool.or_eq_true]
    rw [hs]
    clear hs hf
    cases hq : (t.lk || t.en)
    all_goals
      rw [hq] at hfr
      go_enter Tryz.func236, Tryz.ntmps236
      go_wp2_with fail
      refine (hfr.out).mono ?_
      rintro e w1 ⟨rfl, hb⟩
      have A := a.below hb
      have ho := Off.ofBelow (S := (· = p)) hb
      clear a hb hfr x0 x1 x2 x3 x4 f3 f4
      have x4 := A.c4
      have f4 := A.free 4
      go_wp2_with fail
      go_end0
    · exact ⟨rfl, A.s4 v, ho.trans (off_set _ _ _ _)⟩
    · exact ⟨rfl, A, ho⟩
  · have hs : t.sto 12 v = t.key v := by unfold Wd.sto; rw [if_neg (by simp [hf]), if_neg (by decide), if_neg (by decide), if_neg (by decide), if_pos rfl]
    rw [hs]
    have hk0 : t.en = false → t.key v = t := fun e => by unfold Wd.key; rw [if_pos e]
    obtain ⟨en, hen⟩ : ∃ b, t.en = b := ⟨_, rfl⟩
    rw [hen] at x0
    cases en
    · rw [hk0 hen]
      clear hk0
      go_enter Tryz.func236, Tryz.ntmps236
      go_wp2_with fail
      go_end0
      exact ⟨rfl, a, Off.refl _ _⟩
    · go_enter Tryz.func236, Tryz.ntmps236
      go_wp2_with fail
      refine (dTurn t v p w h a hen v0 v1).mono ?_
      rintro e w1 ⟨rfl, A, ho⟩
      go_wp2_with fail
      go_end0
      exact ⟨rfl, A, ho⟩
theorem Wd.sto_same {t : Wd} {o v : Int} (h : o ≠ 0 ∧ o ≠ 4 ∧ o ≠ 8 ∧ o ≠ 12) : t.sto o v = t := by
  unfold Wd.sto
  split
  · rfl
  · rw [if_neg h.1, if_neg h.2.1, if_neg h.2.2.1, if_neg h.2.2.2]
theorem Wd.sto_fault {t : Wd} {o v : Int} (h : t.fa ≠ 0) : t.sto o v = t := by unfold Wd.sto; rw [if_pos h]
theorem dStore (t : Wd) (o v : Int) (p : Nat) (w : World) (h : t.ok) (a : DAt w p t) (o0 : 0 ≤ o) (o1 : o < 4294967296) (v0 : 0 ≤ v) (v1 : v < 4294967296) :
    Calls Tryz.prog 235 #[.pointer (some ⟨p, 0, none⟩), .int .u32 o, .int .u32 v] w fun e w' => e = .returned (.int .i64 (wSErr o)) ∧ DAt w' p (t.sto o v) ∧ Off (· = p) w w' := by
  have x2 := a.c2
  by_cases he : wErr o = 0
  · by_cases h16 : o = 16
    · subst h16
      rw [Wd.sto_same (by omega)]
      go_enter Tryz.func235, Tryz.ntmps235
      go_wp2_with (first | (go_at_call 162; refine (dCheck _ _ _ (by omega) (by omega) 0 (by rfl)).mono ?_; rintro e w' ⟨rfl, rfl⟩))
      go_ret
      exact ⟨rfl, a, Off.refl _ _⟩
    · have hs : wSErr o = 0 := by unfold wSErr; rw [if_neg h16, he]
      rw [hs]
      have hc : (if (some (⟨p, 0, none⟩ : Addr)) = none then 10 else wErr o) = 0 := by rw [if_neg (by simp), he]
      have h4 : o = 0 ∨ o = 4 ∨ o = 8 ∨ o = 12 := by have := wErr_zero o0 he; omega
      have q16 : (o == 16) = false := by simpa using h16
      clear he hs h16
      by_cases hf : t.fa = 0
      · rw [hf] at x2
        go_enter Tryz.func235, Tryz.ntmps235
        go_wp2_with (first | (go_at_call 162; refine (dCheck _ _ _ o0 o1 0 hc).mono ?_; rintro e w' ⟨rfl, rfl⟩))
        refine (dWrite t o v p w h a hf h4 v0 v1).mono ?_
        rintro e w1 ⟨rfl, A, ho⟩
        go_wp2_with fail
        go_ret
        exact ⟨rfl, A, ho⟩
      · rw [Wd.sto_fault hf]
        have q : (t.fa == 0) = false := by simpa using hf
        go_enter Tryz.func235, Tryz.ntmps235
        go_wp2_with (first | (go_at_call 162; refine (dCheck _ _ _ o0 o1 0 hc).mono ?_; rintro e w' ⟨rfl, rfl⟩))
        go_ret
        exact ⟨rfl, a, Off.refl _ _⟩
  · have n0 : o ≠ 0 ∧ o ≠ 4 ∧ o ≠ 8 ∧ o ≠ 12 := ⟨fun e => he (by rw [e]; rfl), fun e => he (by rw [e]; rfl), fun e => he (by rw [e]; rfl), fun e => he (by rw [e]; rfl)⟩
    have n16 : o ≠ 16 := fun e => he (by rw [e]; rfl)
    have hs : wSErr o = wErr o := by unfold wSErr; rw [if_neg n16]
    rw [hs, Wd.sto_same n0]
    have hc : (if (some (⟨p, 0, none⟩ : Addr)) = none then 10 else wErr o) = wErr o := by rw [if_neg (by simp)]
    have hn : (wErr o == 0) = false := by simpa using he
    have hn2 : (wErr o != 0) = true := by simpa using he
    clear n0 n16 hs
    go_enter Tryz.func235, Tryz.ntmps235
    go_wp2_with fail
    refine (dCheck _ _ _ o0 o1 _ hc).mono ?_
    rintro e w' ⟨rfl, rfl⟩
    go_wp2_with fail
    go_ret
    exact ⟨rfl, a, Off.refl _ _⟩
theorem dStoreNil (o v : Int) (w : World) (o0 : 0 ≤ o) (o1 : o < 4294967296) :
    Calls Tryz.prog 235 #[.pointer none, .int .u32 o, .int .u32 v] w fun e w' => e = .returned (.int .i64 10) ∧ w = w' := by
  go_enter Tryz.func235, Tryz.ntmps235
  go_wp2_with fail
  refine (dCheck _ _ _ o0 o1 10 (by rfl)).mono ?_
  rintro e w' ⟨rfl, rfl⟩
  go_wp2_with fail
  go_ret
  exact ⟨rfl, rfl⟩
theorem wz_row (w : World) (p : Nat) {t : Wd} (a : DAt w p t) : DAt (w.setRow p (dl wz).toArray) p wz := row_set _ a
end Go.Proofs.YtcgmnjajodegmaaGreat.B
namespace Go.Proofs.YtcgmnjajodegmaaGreat.B
set_option linter.unusedVariables false
set_option linter.unusedSimpArgs false
open Go.ChangeShapes Go.WideShapes Go.RowKit Go.Sort
theorem iK : (Tryz.prog.info? 44).map (·.size) = some 8 := by kernel_rfl
def k8 (d r s : Int) (sec : Int) (al ah : Int) (en st : Bool) : List Value := [.int .u32 d, .int .u32 r, .int .u32 s, .int .u64 sec, .int .u32 al, .int .u32 ah, .bool en, .bool st]
def kl (t : Rk) : List Value := k8 t.div t.rest t.set t.sec t.al t.ah t.en t.st
theorem k8_one (d r s : Int) (sec : Int) (al ah : Int) (en st : Bool) : ∀ x ∈ k8 d r s sec al ah en st, x.oneCell' = true := by
  intro x h
  simp only [k8, List.mem_cons, List.not_mem_nil, or_false] at h
  rcases h with rfl | rfl | rfl | rfl | rfl | rfl | rfl | rfl <;> rfl
abbrev tK : TypeId := 44
def KAt (w : World) (b : Nat) (t : Rk) : Prop := w.heap[b]? = some (.cells (kl t).toArray tK (0, 0))
section
variable {w w' : World} {b : Nat} {t : Rk}
theorem KAt.lt (h : KAt w b t) : b < w.heap.size := lt_of_block h
theorem KAt.below (h : KAt w b t) (hb : Below w.heap.size w w') : KAt w' b t := blk_below hb h h.lt
theorem KAt.off {S : Nat → Prop} (h : KAt w b t) (ho : Off S w w') (hs : ¬ S b) : KAt w' b t := ho.at h hs
theorem KAt.free (h : KAt w b t) (j : Nat) : w.frozen? ⟨b, j, none⟩ = false := blk_free h j
theorem KAt.c0 (h : KAt w b t) : w.cell? ⟨b, 0, none⟩ = some (.int .u32 t.div) := by rw [blk_cell h 0]; rfl
theorem KAt.c1 (h : KAt w b t) : w.cell? ⟨b, 1, none⟩ = some (.int .u32 t.rest) := by rw [blk_cell h 1]; rfl
theorem KAt.c2 (h : KAt w b t) : w.cell? ⟨b, 2, none⟩ = some (.int .u32 t.set) := by rw [blk_cell h 2]; rfl
theorem KAt.c3 (h : KAt w b t) : w.cell? ⟨b, 3, none⟩ = some (.int .u64 t.sec) := by rw [blk_cell h 3]; rfl
theorem KAt.c4 (h : KAt w b t) : w.cell? ⟨b, 4, none⟩ = some (.int .u32 t.al) := by rw [blk_cell h 4]; rfl
theorem KAt.c5 (h : KAt w b t) : w.cell? ⟨b, 5, none⟩ = some (.int .u32 t.ah) := by rw [blk_cell h 5]; rfl
theorem KAt.c6 (h : KAt w b t) : w.cell? ⟨b, 6, none⟩ = some (.bool t.en) := by rw [blk_cell h 6]; rfl
theorem KAt.c7 (h : KAt w b t) : w.cell? ⟨b, 7, none⟩ = some (.bool t.st) := by rw [blk_cell h 7]; rfl
theorem KAt.put (h : KAt w b t) (j : Nat) (x : Value) {s : Rk} (he : (kl t).set j x = kl s) : KAt (w.setCell ⟨b, j, none⟩ x) b s := by
  unfold KAt; rw [blk_set h, ← he]; simp
theorem KAt.s0 (h : KAt w b t) (x : Int) : KAt (w.setCell ⟨b, 0, none⟩ (.int .u32 x)) b { t with div := x } := h.put _ _ rfl
theorem KAt.s1 (h : KAt w b t) (x : Int) : KAt (w.setCell ⟨b, 1, none⟩ (.int .u32 x)) b { t with rest := x } := h.put _ _ rfl
theorem KAt.s2 (h : KAt w b t) (x : Int) : KAt (w.setCell ⟨b, 2, none⟩ (.int .u32 x)) b { t with set := x } := h.put _ _ rfl
theorem KAt.s3 (h : KAt w b t) (x : Int) : KAt (w.setCell ⟨b, 3, none⟩ (.int .u64 x)) b { t with sec := x } := h.put _ _ rfl
theorem KAt.s4 (h : KAt w b t) (x : Int) : KAt (w.setCell ⟨b, 4, none⟩ (.int .u32 x)) b { t with al := x } := h.put _ _ rfl
theorem KAt.s5 (h : KAt w b t) (x : Int) : KAt (w.setCell ⟨b, 5, none⟩ (.int .u32 x)) b { t with ah := x } := h.put _ _ rfl
theorem KAt.s6 (h : KAt w b t) (x : Bool) : KAt (w.setCell ⟨b, 6, none⟩ (.bool x)) b { t with en := x } := h.put _ _ rfl
theorem KAt.s7 (h : KAt w b t) (x : Bool) : KAt (w.setCell ⟨b, 7, none⟩ (.bool x)) b { t with st := x } := h.put _ _ rfl
theorem KAt.other (h : KAt w b t) (k j : Nat) (x : Value) (hne : b ≠ k) : KAt (w.setCell ⟨k, j, none⟩ x) b t := blk_else h k j x hne
theorem KAt.row {old : Array Value} (h : w.heap[b]? = some (.cells old tK (0, 0))) (t : Rk) : KAt (w.setRow b (kl t).toArray) b t := row_set _ h
theorem KAt.elseRow (h : KAt w b t) (g : Nat) (cs : Array Value) (hne : b ≠ g) : KAt (w.setRow g cs) b t := row_else g cs h hne
theorem KAt.grown (h : KAt w b t) : ∀ w', (∃ p : Regrown, w' = grow (redrawn w p.d) p.os) → KAt w' b t := grown_block h
end
section
variable {ops : Array Oper} {rest : List Oper} {o : Oper} {a : Act} {w : World} {Q : Exit → Act → World → Prop}
theorem loadK (hgd : o.guard = none) (x : Operand) (ho : o.op = .load 44 x) {b : Nat} (hx : a.eval x = .pointer (some ⟨b, 0, none⟩)) {t : Rk} (hg : KAt w b t)
    (h : wpList Tryz.prog ops Q rest (a.put o.dst (.agg (kl t).toArray)) w) : wpList Tryz.prog ops Q (o :: rest) a w :=
  wpList_load_part hgd _ x ho b 0 hx _ (kl t) hg Tryz.underlying44 rfl iK (part_all _) h
theorem loadKg (x : Operand) (ho : o.op = .load 44 x) (hw : Region.wanted o (yielded ops a.tmps) = true) {b : Nat} (hx : a.eval x = .pointer (some ⟨b, 0, none⟩)) {t : Rk} (hg : KAt w b t)
    (h : wpList Tryz.prog ops Q rest (a.put o.dst (.agg (kl t).toArray)) w) : wpList Tryz.prog ops Q (o :: rest) a w :=
  wpList_load_part_g _ x ho hw b 0 hx _ (kl t) hg Tryz.underlying44 rfl iK (part_all _) h
theorem storeK (hgd : o.guard = none) (x y : Operand) (ho : o.op = .store 44 x y) {b : Nat} (hx : a.eval x = .pointer (some ⟨b, 0, none⟩)) {t : Rk} (hy : a.eval y = .agg (kl t).toArray) {t' : Rk} (hg : KAt w b t')
    (h : wpList Tryz.prog ops Q rest (a.put o.dst undef) (w.setRow b (kl t).toArray)) : wpList Tryz.prog ops Q (o :: rest) a w := by
  refine wpList_store_part hgd _ x y ho b 0 hx (kl t) hy hg iK (by simp [kl, k8]) (k8_one _ _ _ _ _ _ _ _) ?_
  rw [spliced_all _ _ (by simp [kl, k8])]
  exact h
theorem qloadK {C : World → Prop} {K : Act → Prop} (x : Operand) (ho : o.op = .load 44 x) {b : Nat} (hx : a.eval x = .pointer (some ⟨b, 0, none⟩)) {t : Rk} (hg : ∀ w, C w → KAt w b t)
    (h : K (a.put o.dst (.agg (kl t).toArray))) : o.quiet Tryz.prog a C K :=
  quiet_load_part _ x ho b 0 hx _ (kl t) (fun w hw => hg w hw) Tryz.underlying44 rfl iK (part_all _) h
end
theorem resK {fn : Func} {p : Tmp} (h : fn.results = #[.cell p 44]) (tmps : Array Value) (w : World) {b : Nat} {t : Rk} (hp : tmps[p]? = some (.pointer (some ⟨b, 0, none⟩))) (hg : KAt w b t) :
    (results fn tmps).run Tryz.prog w = .ok (.agg (kl t).toArray) w :=
  results_cell_one h tmps w b 0 _ (kl t) hp hg Tryz.underlying44 rfl iK (part_all _)
theorem resK2 {fn : Func} {p q : Tmp} (h : fn.results = #[.cell p 44, .tmp q]) (tmps : Array Value) (w : World) {b : Nat} {t : Rk} (y : Value) (hp : tmps[p]? = some (.pointer (some ⟨b, 0, none⟩))) (hq : tmps[q]? = some y) (hg : KAt w b t) :
    (results fn tmps).run Tryz.prog w = .ok (.tuple #[.agg (kl t).toArray, y]) w :=
  results_cell_slot h tmps w b 0 _ (kl t) y hp hq hg Tryz.underlying44 rfl iK (part_all _)
def rkz : Rk := ⟨0, 0, 0, 0, 0, 0, false, false⟩
def zK : Obj := .cells (kl rkz).toArray tK (0, 0)
theorem zK_eq : Obj.cells #[.int .u32 0, .int .u32 0, .int .u32 0, .int .u64 0, .int .u32 0, .int .u32 0, .bool false, .bool false] 44 (0, 0) = zK := rfl
def oK (t : Rk) : Obj := .cells (kl t).toArray tK (0, 0)
theorem oK_eq (t : Rk) : Obj.cells (kl t).toArray 44 (0, 0) = oK t := rfl
end Go.Proofs.YtcgmnjajodegmaaGreat.B
