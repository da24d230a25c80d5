/- A part of the proof of a law of layer 12: ai. -/
import Derived.Test.YtaohacadochldaaGreatZCah
set_option linter.unusedVariables false
set_option linter.unusedSimpArgs false
set_option maxHeartbeats 12800000
set_option maxRecDepth 100000
namespace Go.Proofs.YtaohacadochldaaGreat.B
open Go.Proofs.Tryz
open Go.ChangeShapes Go.WideShapes Go.RowKit Go.Sort
theorem qF (w : World) (p : Nat) (cs : Array Value) : aF (· = p) w (w.setRow p cs) := ⟨rfl, rfl, rfl, by simp, fun k _ hs => setRow_other w p k cs hs⟩
theorem aDZ {t : Wd} {v : Int} (hen : t.en = true) (h : v = 23130) : t.key v = { t with ar := true } := by unfold Wd.key; rw [if_neg (by rw [hen]; simp), if_pos h]
theorem yD {t : Wd} {v : Int} (hen : t.en = true) (h : v = 42405) (ha : t.ar = true) (hs : t.si < t.cl) : t.key v = { t with fa := 4 } := by
 unfold Wd.key; rw [if_neg (by rw [hen]; simp), if_neg (by omega), if_pos ⟨h, ha⟩, if_pos hs]
theorem aBB {t : Wd} {v : Int} (hen : t.en = true) (h : v = 42405) (ha : t.ar = true) (hs : ¬ t.si < t.cl) : t.key v = { t with si := 0, ar := false } := by
 unfold Wd.key; rw [if_neg (by rw [hen]; simp), if_neg (by omega), if_pos ⟨h, ha⟩, if_neg hs]
theorem oB {t : Wd} {v : Int} (hen : t.en = true) (h : v ≠ 23130) (ha : ¬ (v = 42405 /\ t.ar = true)) (hs : t.si < t.cl) : t.key v = { t with fa := 8 } := by
 unfold Wd.key; rw [if_neg (by rw [hen]; simp), if_neg h, if_neg ha, if_pos hs]
theorem zZ {t : Wd} {v : Int} (hen : t.en = true) (h : v ≠ 23130) (ha : ¬ (v = 42405 /\ t.ar = true)) (hs : ¬ t.si < t.cl) : t.key v = { t with ar := false } := by
 unfold Wd.key; rw [if_neg (by rw [hen]; simp), if_neg h, if_neg ha, if_neg hs]
theorem aN3 (t : Wd) (v : Int) (p : Nat) (w : World) (h : t.ok) (a : eC w p t) (hen : t.en = true) (v0 : 0 <= v) (v1 : v < 4294967296) :
 Calls prog 291 #[.pointer (some ⟨p, 0, none⟩), .int .u32 v] w fun e w' => e = .returned (.tuple #[]) /\ eC w' p (t.key v) /\ aF (· = p) w w' := by
 obtain ⟨R, hR⟩ : ∃ R, t.key v = R := ⟨_, rfl⟩
 rw [hR]
 have HR := Hd hR
 clear hR
 have x3 := a.c3
 have x5 := a.c5
 have c0 := h.c0
 have c1 := h.c1
 have s0 := h.s0
 have hl := a.lt
 clear h
 go_enter func291, ntmps291
 go_wp2_with fail
 have hg := bC
 refine wp_region_quiet_below (by kernel_rfl) (by kernel_rfl) ?_
 repeat (go_big_quiet_step (fail))
 refine wpQuiet_nil ?_
 intro _ hw'
 obtain ⟨⟨dq, osq⟩, hw''⟩ := hw'
 subst hw''
 have hbr := below_regrown w dq osq
 have ho := aF.ofBelow (S := (· = p)) hbr
 have A := a.below hbr
 clear a hbr hg x3 x5 hl c0 c1 s0
 dsimp only at A ho ⊢
 generalize grow (redrawn w dq) osq = W at *
 obtain ⟨sh, hsh⟩ : ∃ b, decide (t.si < t.cl) = b := ⟨_, rfl⟩
 simp only [hsh]
 have x2 := A.c2
 have x5 := A.c5
 have x6 := A.c6
 have f2 := A.free 2
 have f5 := A.free 5
 have f6 := A.free 6
 by_cases h1 : v = 23130
 . subst h1
   go_wp2_with fail
   go_end0
   exact ⟨rfl, by rw [<- HR.out, aDZ hen rfl]; exact A.s6 true, ho.trans (aG _ _ _ _)⟩
 . have q1 : (v == 23130) = false := by simpa using h1
   by_cases h2 : v = 42405
   . subst h2
     obtain ⟨ar, har⟩ : ∃ b, t.ar = b := ⟨_, rfl⟩
     rw [har] at x6
     cases ar <;> cases sh
     . go_wp2_with fail
       go_end0
       exact ⟨rfl, by rw [<- HR.out, zZ hen (by omega) (by rw [har]; simp) (by simpa using hsh)]; exact A.s6 false, ho.trans (aG _ _ _ _)⟩
     . go_wp2_with fail
       go_end0
       exact ⟨rfl, by rw [<- HR.out, oB hen (by omega) (by rw [har]; simp) (by simpa using hsh)]; exact A.s2 8, ho.trans (aG _ _ _ _)⟩
     . go_wp2_with fail
       go_end0
       exact ⟨rfl, by rw [<- HR.out, aBB hen rfl har (by simpa using hsh)]; exact (A.s5 0).s6 false, (ho.trans (aG _ _ _ _)).trans (aG _ _ _ _)⟩
     . go_wp2_with fail
       go_end0
       exact ⟨rfl, by rw [<- HR.out, yD hen rfl har (by simpa using hsh)]; exact A.s2 4, ho.trans (aG _ _ _ _)⟩
   . have q2 : (v == 42405) = false := by simpa using h2
     cases sh
     . go_wp2_with fail
       go_end0
       exact ⟨rfl, by rw [<- HR.out, zZ hen h1 (fun e => h2 e.1) (by simpa using hsh)]; exact A.s6 false, ho.trans (aG _ _ _ _)⟩
     . go_wp2_with fail
       go_end0
       exact ⟨rfl, by rw [<- HR.out, oB hen h1 (fun e => h2 e.1) (by simpa using hsh)]; exact A.s2 8, ho.trans (aG _ _ _ _)⟩
theorem aFv (v : Int) (v0 : 0 <= v) : field v 0 1 = v % 2 := by
 unfold field
 rw [if_pos (by decide), show (0 : Int).toNat = 0 from rfl, show (2 : Nat) ^ min (1 : Int).toNat 32 = 2 by decide, Nat.pow_zero, Nat.div_one]; omega
theorem aFw (v : Int) (v0 : 0 <= v) : field v 1 1 = v / 2 % 2 := by
 unfold field
 rw [if_pos (by decide), show (2 : Nat) ^ (1 : Int).toNat = 2 by decide, show (2 : Nat) ^ min (1 : Int).toNat 32 = 2 by decide]; omega
theorem aFm {t : Wd} {v : Int} (hl : t.lk = false) (he : t.en = false) (hv : v % 2 = 1) (hc : t.cl < t.tot) : t.ctlPut v = { t with en := true, si := 0, ar := false, lk := (v / 2 % 2 == 1) } := by
 unfold Wd.ctlPut Wd.ctlTo; rw [if_neg (by rw [hl]; simp), if_pos ⟨he, hv, hc⟩]
theorem aDT {t : Wd} {v : Int} (hl : t.lk = false) (he : t.en = true) (hv : v % 2 = 0) : t.ctlPut v = { t with en := false, si := 0, ar := false, lk := (v / 2 % 2 == 1) } := by
 unfold Wd.ctlPut Wd.ctlTo; rw [if_neg (by rw [hl]; simp), if_neg (by rw [he]; simp), if_pos ⟨he, hv⟩]
theorem kZ {t : Wd} {v : Int} (hl : t.lk = false) (h1 : ¬ (t.en = false /\ v % 2 = 1 /\ t.cl < t.tot)) (h2 : ¬ (t.en = true /\ v % 2 = 0)) : t.ctlPut v = { t with lk := (v / 2 % 2 == 1) } := by
 unfold Wd.ctlPut Wd.ctlTo; rw [if_neg (by rw [hl]; simp), if_neg h1, if_neg h2]
theorem wD {P : Prop} (h : P := by
 go_wp2_with fail
 refine (F1.out _).mono ?_
 rintro e1 w2 ⟨rfl, k2, rfl⟩
 have A2 := A1.below (vG (aH W1) k2)
 have ho2 := ho1.trans (aF.ofBelow (S := (· = p)) (vG (aH W1) k2))
 clear A1 ho1 x0 x1 x5 x6 f0 f5 f6
 generalize W1.drewN k2 = W2 at *
 have x1 := A2.c1
 have f1 := A2.free 1
 go_wp2_with fail
 go_end0
 exact ⟨rfl, by rw [<- HR.out, kZ hlk (fun h => by rw [hen] at h; simp at h) (fun h => by simp at hev; omega), hlv]; exact A2.s1 l, ho2.trans (aG _ _ _ _)⟩
 ) : P := h
theorem aLR (t : Wd) (v : Int) (p : Nat) (w : World) (h : t.ok) (a : eC w p t) (hlk : t.lk = false) (v0 : 0 <= v) (v1 : v < 4294967296) :
 Calls prog 289 #[.pointer (some ⟨p, 0, none⟩), .int .u32 v] w fun e w' => e = .returned (.tuple #[]) /\ eC w' p (t.ctlPut v) /\ aF (· = p) w w' := by
 obtain ⟨R, hR⟩ : ∃ R, t.ctlPut v = R := ⟨_, rfl⟩
 rw [hR]
 have HR := Hd hR
 clear hR
 have F0 := Hd (fun w => by have := Field v 0 1 w v0 v1 (by omega) (by omega); rw [aFv v v0] at this; exact this)
 have F1 := Hd (fun w => by have := Field v 1 1 w v0 v1 (by omega) (by omega); rw [aFw v v0] at this; exact this)
 obtain ⟨l, hlv⟩ : ∃ b, (v / 2 % 2 == 1) = b := ⟨_, rfl⟩
 obtain ⟨e, hev⟩ : ∃ b, (v % 2 == 1) = b := ⟨_, rfl⟩
 obtain ⟨lt, hlt⟩ : ∃ b, decide (t.cl < t.tot) = b := ⟨_, rfl⟩
 obtain ⟨en, hen⟩ : ∃ b, t.en = b := ⟨_, rfl⟩
 go_enter func289, ntmps289
 go_wp2_with fail
 refine (F0.out _).mono ?_
 rintro e0 w1 ⟨rfl, k, rfl⟩
 have hb := vG (aH w) k
 have ho := aF.ofBelow (S := (· = p)) hb
 have A := a.below hb
 clear a hb
 generalize w.drewN k = W0 at *
 have hl := A.lt
 have x3 := A.c3
 have x4 := A.c4
 have hg := bC
 cases e
 . go_wp2_with fail
   refine wp_region_quiet_below (by kernel_rfl) (by kernel_rfl) ?_
   repeat (go_big_quiet_step (fail))
   refine wpQuiet_nil ?_
   intro _ hw'
   obtain ⟨⟨dq, osq⟩, hw''⟩ := hw'
   subst hw''
   have hbr := below_regrown W0 dq osq
   have ho1 := ho.trans (aF.ofBelow (S := (· = p)) hbr)
   have A1 := A.below hbr
   clear A ho hbr hg hl x3 x4
   dsimp only at A1 ho1 ⊢
   generalize grow (redrawn W0 dq) osq = W1 at *
   have x0 := A1.c0
   have x1 := A1.c1
   have x5 := A1.c5
   have x6 := A1.c6
   have f0 := A1.free 0
   have f5 := A1.free 5
   have f6 := A1.free 6
   rw [hen] at x0
   cases en
   . go_wp2_with fail
     refine (F1.out _).mono ?_
     rintro e1 w2 ⟨rfl, k2, rfl⟩
     have A2 := A1.below (vG (aH W1) k2)
     have ho2 := ho1.trans (aF.ofBelow (S := (· = p)) (vG (aH W1) k2))
     clear A1 ho1 x0 x1 x5 x6 f0 f5 f6
     generalize W1.drewN k2 = W2 at *
     have x1 := A2.c1
     have f1 := A2.free 1
     go_wp2_with fail
     go_end0
     exact ⟨rfl, by rw [<- HR.out, kZ hlk (fun h => by simp at hev; omega) (fun h => by rw [hen] at h; simp at h), hlv]; exact A2.s1 l, ho2.trans (aG _ _ _ _)⟩
   . have A3 : eC (((W1.setCell ⟨p, 0, none⟩ (.bool false)).setCell ⟨p, 5, none⟩ (.int .u64 0)).setCell ⟨p, 6, none⟩ (.bool false)) p { t with en := false, si := 0, ar := false } := ((A1.s0 false).s5 0).s6 false
     have ho3 := ((ho1.trans (aG W1 p 0 (.bool false))).trans (aG _ p 5 (.int .u64 0))).trans (aG _ p 6 (.bool false))
     go_wp2_with fail
     refine (F1.out _).mono ?_
     rintro e1 w2 ⟨rfl, k2, rfl⟩
     clear A1 ho1 x0 x1 x5 x6 f0 f5 f6
     generalize (((W1.setCell ⟨p, 0, none⟩ (.bool false)).setCell ⟨p, 5, none⟩ (.int .u64 0)).setCell ⟨p, 6, none⟩ (.bool false)) = W4 at *
     have A2 := A3.below (vG (aH W4) k2)
     have ho2 := ho3.trans (aF.ofBelow (S := (· = p)) (vG (aH W4) k2))
     clear A3 ho3
     generalize W4.drewN k2 = W2 at *
     have x1 := A2.c1
     have f1 := A2.free 1
     go_wp2_with fail
     go_end0
     exact ⟨rfl, by rw [<- HR.out, aDT hlk hen (by simp at hev; omega), hlv]; exact A2.s1 l, ho2.trans (aG _ _ _ _)⟩
 . cases lt
   all_goals
    go_wp2_with fail
    refine wp_region_quiet_below (by kernel_rfl) (by kernel_rfl) ?_
    repeat (go_big_quiet_step (fail))
    refine wpQuiet_nil ?_
    intro _ hw'
    obtain ⟨⟨dq, osq⟩, hw''⟩ := hw'
    subst hw''
    have hbr := below_regrown W0 dq osq
    have ho1 := ho.trans (aF.ofBelow (S := (· = p)) hbr)
    have A1 := A.below hbr
    clear A ho hbr hg hl x3 x4
    dsimp only at A1 ho1 ⊢
    generalize grow (redrawn W0 dq) osq = W1 at *
    have x0 := A1.c0
    have x1 := A1.c1
    have x5 := A1.c5
    have x6 := A1.c6
    have f0 := A1.free 0
    have f5 := A1.free 5
    have f6 := A1.free 6
    rw [hen] at x0
    cases en
   . go_wp2_with fail
     refine (F1.out _).mono ?_
     rintro e1 w2 ⟨rfl, k2, rfl⟩
     have A2 := A1.below (vG (aH W1) k2)
     have ho2 := ho1.trans (aF.ofBelow (S := (· = p)) (vG (aH W1) k2))
     clear A1 ho1 x0 x1 x5 x6 f0 f5 f6
     generalize W1.drewN k2 = W2 at *
     have x1 := A2.c1
     have f1 := A2.free 1
     go_wp2_with fail
     go_end0
     exact ⟨rfl, by rw [<- HR.out, kZ hlk (fun h => by simp at hlt; omega) (fun h => by rw [hen] at h; simp at h), hlv]; exact A2.s1 l, ho2.trans (aG _ _ _ _)⟩
   . exact wD
   . have A3 : eC (((W1.setCell ⟨p, 0, none⟩ (.bool true)).setCell ⟨p, 5, none⟩ (.int .u64 0)).setCell ⟨p, 6, none⟩ (.bool false)) p { t with en := true, si := 0, ar := false } := ((A1.s0 true).s5 0).s6 false
     have ho3 := ((ho1.trans (aG W1 p 0 (.bool true))).trans (aG _ p 5 (.int .u64 0))).trans (aG _ p 6 (.bool false))
     go_wp2_with fail
     refine (F1.out _).mono ?_
     rintro e1 w2 ⟨rfl, k2, rfl⟩
     clear A1 ho1 x0 x1 x5 x6 f0 f5 f6
     generalize (((W1.setCell ⟨p, 0, none⟩ (.bool true)).setCell ⟨p, 5, none⟩ (.int .u64 0)).setCell ⟨p, 6, none⟩ (.bool false)) = W4 at *
     have A2 := A3.below (vG (aH W4) k2)
     have ho2 := ho3.trans (aF.ofBelow (S := (· = p)) (vG (aH W4) k2))
     clear A3 ho3
     generalize W4.drewN k2 = W2 at *
     have x1 := A2.c1
     have f1 := A2.free 1
     go_wp2_with fail
     go_end0
     exact ⟨rfl, by rw [<- HR.out, aFm hlk hen (by simpa using hev) (by simpa using hlt), hlv]; exact A2.s1 l, ho2.trans (aG _ _ _ _)⟩
   . exact wD
theorem aIf (t : Wd) (h : t.fa = 0) : decide (t.en = false /\ t.lk = false /\ t.fa = 0) = (!(t.lk || t.en)) := by cases t.en <;> cases t.lk <;> simp [h]
theorem rL {P : Prop} (h : P := by
 rintro e w1 ⟨rfl, A, ho⟩
 go_wp2_with fail
 go_end0
 exact ⟨rfl, A, ho⟩
 ) : P := h
theorem wK {P : Prop} (h : P := by
 go_enter func288, ntmps288
 go_wp2_with fail
 go_end0
 exact ⟨rfl, a, aF.refl _ _⟩
 ) : P := h
theorem aLV (t : Wd) (o v : Int) (p : Nat) (w : World) (h : t.ok) (a : eC w p t) (hf : t.fa = 0) (ho : o = 0 \/ o = 4 \/ o = 8 \/ o = 12) (v0 : 0 <= v) (v1 : v < 4294967296) :
 Calls prog 288 #[.pointer (some ⟨p, 0, none⟩), .int .u32 o, .int .u32 v] w fun e w' => e = .returned (.tuple #[]) /\ eC w' p (t.sto o v) /\ aF (· = p) w w' := by
 have x0 := a.c0
 have x1 := a.c1
 have x2 := a.c2
 have x3 := a.c3
 have x4 := a.c4
 have f3 := a.free 3
 have f4 := a.free 4
 have hfr := aN0 t w
 rw [aIf t hf] at hfr
 have hfr := Hd hfr
 rcases ho with rfl | rfl | rfl | rfl
 . have hs : t.sto 0 v = t.ctlPut v := by unfold Wd.sto; rw [if_neg (by simp [hf]), if_pos rfl]
   rw [hs]
   have hlk0 : t.lk = true -> t.ctlPut v = t := fun e => by unfold Wd.ctlPut; rw [if_pos e]
   obtain ⟨lk, hlk⟩ : ∃ b, t.lk = b := ⟨_, rfl⟩
   rw [hlk] at x1
   cases lk
   . go_enter func288, ntmps288
     go_wp2_with fail
     refine (aLR t v p w h a hlk v0 v1).mono ?_
     exact rL
   . rw [hlk0 hlk]
     clear hlk0
     exact wK
 . have hs : t.sto 4 v = (if (t.lk || t.en) = true then t else { t with cl := v }) := by unfold Wd.sto; rw [if_neg (by simp [hf]), if_neg (by decide), if_pos rfl]; simp only [Bool.or_eq_true]
   rw [hs]
   clear hs hf
   cases hq : (t.lk || t.en)
   all_goals
    rw [hq] at hfr
    go_enter func288, ntmps288
    go_wp2_with fail
    refine (hfr.out).mono ?_
    rintro e w1 ⟨rfl, hb⟩
    have A := a.below hb
    have ho := aF.ofBelow (S := (· = p)) hb
    clear a hb hfr x0 x1 x2 x3 x4 f3 f4
    have x3 := A.c3
    have f3 := A.free 3
    go_wp2_with fail
    go_end0
   . exact ⟨rfl, A.s3 v, ho.trans (aG _ _ _ _)⟩
   . exact ⟨rfl, A, ho⟩
 . have hs : t.sto 8 v = (if (t.lk || t.en) = true then t else { t with tot := v }) := by unfold Wd.sto; rw [if_neg (by simp [hf]), if_neg (by decide), if_neg (by decide), if_pos rfl]; simp only [Bool.or_eq_true]
   rw [hs]
   clear hs hf
   cases hq : (t.lk || t.en)
   all_goals
    rw [hq] at hfr
    go_enter func288, ntmps288
    go_wp2_with fail
    refine (hfr.out).mono ?_
    rintro e w1 ⟨rfl, hb⟩
    have A := a.below hb
    have ho := aF.ofBelow (S := (· = p)) hb
    clear a hb hfr x0 x1 x2 x3 x4 f3 f4
    have x4 := A.c4
    have f4 := A.free 4
    go_wp2_with fail
    go_end0
   . exact ⟨rfl, A.s4 v, ho.trans (aG _ _ _ _)⟩
   . exact ⟨rfl, A, ho⟩
 . have hs : t.sto 12 v = t.key v := by unfold Wd.sto; rw [if_neg (by simp [hf]), if_neg (by decide), if_neg (by decide), if_neg (by decide), if_pos rfl]
   rw [hs]
   have hk0 : t.en = false -> t.key v = t := fun e => by unfold Wd.key; rw [if_pos e]
   obtain ⟨en, hen⟩ : ∃ b, t.en = b := ⟨_, rfl⟩
   rw [hen] at x0
   cases en
   . rw [hk0 hen]
     clear hk0
     exact wK
   . go_enter func288, ntmps288
     go_wp2_with fail
     refine (aN3 t v p w h a hen v0 v1).mono ?_
     exact rL
theorem Wd.sto_same {t : Wd} {o v : Int} (h : o ≠ 0 /\ o ≠ 4 /\ o ≠ 8 /\ o ≠ 12) : t.sto o v = t := by
 unfold Wd.sto
 split
 . rfl
 . rw [if_neg h.1, if_neg h.2.1, if_neg h.2.2.1, if_neg h.2.2.2]
theorem Wd.sto_fault {t : Wd} {o v : Int} (h : t.fa ≠ 0) : t.sto o v = t := by unfold Wd.sto; rw [if_pos h]
theorem aLU (t : Wd) (o v : Int) (p : Nat) (w : World) (h : t.ok) (a : eC w p t) (o0 : 0 <= o) (o1 : o < 4294967296) (v0 : 0 <= v) (v1 : v < 4294967296) :
 Calls prog 287 #[.pointer (some ⟨p, 0, none⟩), .int .u32 o, .int .u32 v] w fun e w' => e = .returned (.int .i64 (kQ o)) /\ eC w' p (t.sto o v) /\ aF (· = p) w w' := by
 have x2 := a.c2
 by_cases he : eS o = 0
 . by_cases h16 : o = 16
   . subst h16
     rw [Wd.sto_same (by omega)]
     go_enter func287, ntmps287
     go_wp2_with (first | (go_at_call 206; refine (pA _ _ _ (by omega) (by omega) 0 (by rfl)).mono ?_; rintro e w' ⟨rfl, rfl⟩))
     go_ret
     exact ⟨rfl, a, aF.refl _ _⟩
   . have hs : kQ o = 0 := by unfold kQ; rw [if_neg h16, he]
     rw [hs]
     have hc : (if (some (⟨p, 0, none⟩ : Addr)) = none then 10 else eS o) = 0 := by rw [if_neg (by simp), he]
     have h4 : o = 0 \/ o = 4 \/ o = 8 \/ o = 12 := by have := oJ o0 he; omega
     have q16 : (o == 16) = false := by simpa using h16
     clear he hs h16
     by_cases hf : t.fa = 0
     . rw [hf] at x2
       go_enter func287, ntmps287
       go_wp2_with (first | (go_at_call 206; refine (pA _ _ _ o0 o1 0 hc).mono ?_; rintro e w' ⟨rfl, rfl⟩))
       refine (aLV t o v p w h a hf h4 v0 v1).mono ?_
       rintro e w1 ⟨rfl, A, ho⟩
       go_wp2_with fail
       go_ret
       exact ⟨rfl, A, ho⟩
     . rw [Wd.sto_fault hf]
       have q : (t.fa == 0) = false := by simpa using hf
       go_enter func287, ntmps287
       go_wp2_with (first | (go_at_call 206; refine (pA _ _ _ o0 o1 0 hc).mono ?_; rintro e w' ⟨rfl, rfl⟩))
       go_ret
       exact ⟨rfl, a, aF.refl _ _⟩
 . have n0 : o ≠ 0 /\ o ≠ 4 /\ o ≠ 8 /\ o ≠ 12 := ⟨fun e => he (by rw [e]; rfl), fun e => he (by rw [e]; rfl), fun e => he (by rw [e]; rfl), fun e => he (by rw [e]; rfl)⟩
   have n16 : o ≠ 16 := fun e => he (by rw [e]; rfl)
   have hs : kQ o = eS o := by unfold kQ; rw [if_neg n16]
   rw [hs, Wd.sto_same n0]
   have hc : (if (some (⟨p, 0, none⟩ : Addr)) = none then 10 else eS o) = eS o := by rw [if_neg (by simp)]
   have hn : (eS o == 0) = false := by simpa using he
   have hn2 : (eS o != 0) = true := by simpa using he
   clear n0 n16 hs
   go_enter func287, ntmps287
   go_wp2_with fail
   refine (pA _ _ _ o0 o1 _ hc).mono ?_
   exact nL
theorem iK : (prog.info? 37).map (·.size) = some 8 := by kernel_rfl
def k8 (d r s : Int) (sec : Int) (al ah : Int) (en st : Bool) : List Value := [.int .u32 d, .int .u32 r, .int .u32 s, .int .u64 sec, .int .u32 al, .int .u32 ah, .bool en, .bool st]
def kl (t : Rk) : List Value := k8 t.div t.rest t.set t.sec t.al t.ah t.en t.st
theorem aCb (d r s : Int) (sec : Int) (al ah : Int) (en st : Bool) : ∀ x ∈ k8 d r s sec al ah en st, x.oneCell' = true := by
 intro x h
 simp only [k8, List.mem_cons, List.not_mem_nil, or_false] at h
 rcases h with rfl | rfl | rfl | rfl | rfl | rfl | rfl | rfl <;> rfl
abbrev tK : TypeId := 37
def bL (w : World) (b : Nat) (t : Rk) : Prop := w.heap[b]? = some (.cells (kl t).toArray tK (0, 0))
section
variable {w w' : World} {b : Nat} {t : Rk}
theorem bL.lt (h : bL w b t) : b < w.heap.size := lt_of_block h
theorem bL.below (h : bL w b t) (hb : Below w.heap.size w w') : bL w' b t := aC hb h h.lt
theorem bL.off {S : Nat -> Prop} (h : bL w b t) (ho : aF S w w') (hs : ¬ S b) : bL w' b t := ho.at h hs
theorem bL.free (h : bL w b t) (j : Nat) : w.frozen? ⟨b, j, none⟩ = false := aK h j
theorem bL.c0 (h : bL w b t) : w.cell? ⟨b, 0, none⟩ = some (.int .u32 t.div) := by rw [aA h 0]; rfl
theorem bL.c1 (h : bL w b t) : w.cell? ⟨b, 1, none⟩ = some (.int .u32 t.rest) := by rw [aA h 1]; rfl
theorem bL.c2 (h : bL w b t) : w.cell? ⟨b, 2, none⟩ = some (.int .u32 t.set) := by rw [aA h 2]; rfl
theorem bL.c3 (h : bL w b t) : w.cell? ⟨b, 3, none⟩ = some (.int .u64 t.sec) := by rw [aA h 3]; rfl
theorem bL.c4 (h : bL w b t) : w.cell? ⟨b, 4, none⟩ = some (.int .u32 t.al) := by rw [aA h 4]; rfl
theorem bL.c5 (h : bL w b t) : w.cell? ⟨b, 5, none⟩ = some (.int .u32 t.ah) := by rw [aA h 5]; rfl
theorem bL.c6 (h : bL w b t) : w.cell? ⟨b, 6, none⟩ = some (.bool t.en) := by rw [aA h 6]; rfl
theorem bL.c7 (h : bL w b t) : w.cell? ⟨b, 7, none⟩ = some (.bool t.st) := by rw [aA h 7]; rfl
theorem bL.put (h : bL w b t) (j : Nat) (x : Value) {s : Rk} (he : (kl t).set j x = kl s) : bL (w.setCell ⟨b, j, none⟩ x) b s := by
 unfold bL; rw [aR h, <- he]; simp
theorem bL.s0 (h : bL w b t) (x : Int) : bL (w.setCell ⟨b, 0, none⟩ (.int .u32 x)) b { t with div := x } := h.put _ _ rfl
theorem bL.s1 (h : bL w b t) (x : Int) : bL (w.setCell ⟨b, 1, none⟩ (.int .u32 x)) b { t with rest := x } := h.put _ _ rfl
theorem bL.s2 (h : bL w b t) (x : Int) : bL (w.setCell ⟨b, 2, none⟩ (.int .u32 x)) b { t with set := x } := h.put _ _ rfl
theorem bL.s3 (h : bL w b t) (x : Int) : bL (w.setCell ⟨b, 3, none⟩ (.int .u64 x)) b { t with sec := x } := h.put _ _ rfl
theorem bL.s4 (h : bL w b t) (x : Int) : bL (w.setCell ⟨b, 4, none⟩ (.int .u32 x)) b { t with al := x } := h.put _ _ rfl
theorem bL.s5 (h : bL w b t) (x : Int) : bL (w.setCell ⟨b, 5, none⟩ (.int .u32 x)) b { t with ah := x } := h.put _ _ rfl
theorem bL.s6 (h : bL w b t) (x : Bool) : bL (w.setCell ⟨b, 6, none⟩ (.bool x)) b { t with en := x } := h.put _ _ rfl
theorem bL.s7 (h : bL w b t) (x : Bool) : bL (w.setCell ⟨b, 7, none⟩ (.bool x)) b { t with st := x } := h.put _ _ rfl
theorem bL.other (h : bL w b t) (k j : Nat) (x : Value) (hne : b ≠ k) : bL (w.setCell ⟨k, j, none⟩ x) b t := aV h k j x hne
theorem bL.row {old : Array Value} (h : w.heap[b]? = some (.cells old tK (0, 0))) (t : Rk) : bL (w.setRow b (kl t).toArray) b t := aY _ h
theorem bL.elseRow (h : bL w b t) (g : Nat) (cs : Array Value) (hne : b ≠ g) : bL (w.setRow g cs) b t := eQ g cs h hne
theorem bL.grown (h : bL w b t) : ∀ w', (∃ p : Regrown, w' = grow (redrawn w p.d) p.os) -> bL w' b t := bZ h
end
section
variable {ops : Array Oper} {rest : List Oper} {o : Oper} {a : Act} {w : World} {Q : Exit -> Act -> World -> Prop}
theorem dF (hgd : o.guard = none) (x : Operand) (ho : o.op = .load 37 x) {b : Nat} (hx : a.eval x = .pointer (some ⟨b, 0, none⟩)) {t : Rk} (hg : bL w b t)
 (h : wpList prog ops Q rest (a.put o.dst (.agg (kl t).toArray)) w) : wpList prog ops Q (o :: rest) a w :=
 aN hgd _ x ho b 0 hx _ (kl t) hg underlying37 rfl iK (aL _) h
theorem aCh (x : Operand) (ho : o.op = .load 37 x) (hw : Region.wanted o (yielded ops a.tmps) = true) {b : Nat} (hx : a.eval x = .pointer (some ⟨b, 0, none⟩)) {t : Rk} (hg : bL w b t)
 (h : wpList prog ops Q rest (a.put o.dst (.agg (kl t).toArray)) w) : wpList prog ops Q (o :: rest) a w :=
 dC _ x ho hw b 0 hx _ (kl t) hg underlying37 rfl iK (aL _) h
theorem fL (hgd : o.guard = none) (x y : Operand) (ho : o.op = .store 37 x y) {b : Nat} (hx : a.eval x = .pointer (some ⟨b, 0, none⟩)) {t : Rk} (hy : a.eval y = .agg (kl t).toArray) {t' : Rk} (hg : bL w b t')
 (h : wpList prog ops Q rest (a.put o.dst undef) (w.setRow b (kl t).toArray)) : wpList prog ops Q (o :: rest) a w := by
 refine aJ hgd _ x y ho b 0 hx (kl t) hy hg iK (by simp [kl, k8]) (aCb _ _ _ _ _ _ _ _) ?_
 rw [aW _ _ (by simp [kl, k8])]
 exact h
theorem aCw {C : World -> Prop} {K : Act -> Prop} (x : Operand) (ho : o.op = .load 37 x) {b : Nat} (hx : a.eval x = .pointer (some ⟨b, 0, none⟩)) {t : Rk} (hg : ∀ w, C w -> bL w b t)
 (h : K (a.put o.dst (.agg (kl t).toArray))) : o.quiet prog a C K :=
 bD _ x ho b 0 hx _ (kl t) (fun w hw => hg w hw) underlying37 rfl iK (aL _) h
end
theorem aHM {fn : Func} {p : Tmp} (h : fn.results = #[.cell p 37]) (tmps : Array Value) (w : World) {b : Nat} {t : Rk} (hp : tmps[p]? = some (.pointer (some ⟨b, 0, none⟩))) (hg : bL w b t) :
 (results fn tmps).run prog w = .ok (.agg (kl t).toArray) w :=
 aS h tmps w b 0 _ (kl t) hp hg underlying37 rfl iK (aL _)
theorem aHN {fn : Func} {p q : Tmp} (h : fn.results = #[.cell p 37, .tmp q]) (tmps : Array Value) (w : World) {b : Nat} {t : Rk} (y : Value) (hp : tmps[p]? = some (.pointer (some ⟨b, 0, none⟩))) (hq : tmps[q]? = some y) (hg : bL w b t) :
 (results fn tmps).run prog w = .ok (.tuple #[.agg (kl t).toArray, y]) w :=
 bE h tmps w b 0 _ (kl t) y hp hq hg underlying37 rfl iK (aL _)
def mI : Rk := ⟨0, 0, 0, 0, 0, 0, false, false⟩
def zK : Obj := .cells (kl mI).toArray tK (0, 0)
theorem dH : Obj.cells #[.int .u32 0, .int .u32 0, .int .u32 0, .int .u64 0, .int .u32 0, .int .u32 0, .bool false, .bool false] 37 (0, 0) = zK := rfl
def oK (t : Rk) : Obj := .cells (kl t).toArray tK (0, 0)
theorem eV (t : Rk) : Obj.cells (kl t).toArray 37 (0, 0) = oK t := rfl
theorem vZ {P : Prop} (h : P := by
 go_enter func35, ntmps35
 go_wp2
 go_ret
 exact ⟨rfl, rfl⟩
 ) : P := h
theorem rLo (a : Int) (w : World) (h0 : 0 <= a) (h1 : a < 18446744073709551616) :
 Calls prog 35 #[.int .u64 a] w fun e w' => e = .returned (.int .u32 (lo a)) /\ w = w' := by
 exact vZ
theorem rHi (a : Int) (w : World) (h0 : 0 <= a) (h1 : a < 18446744073709551616) :
 Calls prog 34 #[.int .u64 a] w fun e w' => e = .returned (.int .u32 (hi a)) /\ w = w' := by
 go_enter func34, ntmps34
 go_wp2
 go_ret
 exact ⟨rfl, rfl⟩
theorem aHE (h l : Int) (w : World) (h0 : 0 <= h) (h1 : h < 4294967296) (l0 : 0 <= l) (l1 : l < 4294967296) :
 Calls prog 84 #[.int .u32 h, .int .u32 l] w fun e w' => e = .returned (.int .u64 (cZ h l)) /\ w = w' := by
 go_enter func84, ntmps84
 go_wp2
 go_ret
 exact ⟨rfl, rfl⟩
theorem aMh (a b : Int) (w : World) (h0 : 0 <= a) (h1 : a < 18446744073709551616) (l0 : 0 <= b) (l1 : b < 18446744073709551616) :
 Calls prog 137 #[.int .u64 a, .int .u64 b] w fun e w' => e = .returned (.int .u64 (eF a b)) /\ w = w' := by
 go_enter func137, ntmps137
 exact xM
theorem aCc (t : Rk) (w : World) (h : t.ok) : Calls prog 170 #[.agg (kl t).toArray] w fun e w' => e = .returned (.int .u64 t.alarm) /\ Below w.heap.size w w' := by
 have hB := aE (aH w) (oK t)
 have X : bL (w.alloc (oK t)) w.heap.size t := aD w (oK t)
 have x4 := X.c4
 have x5 := X.c5
 go_enter func170, ntmps170
 go_upto_region 1 with (fail)
 rw [eV]
 generalize w.alloc (oK t) = W at *
 go_wp2_with (go_at_call 84; refine (aHE _ _ _ h.h0 h.h1 h.l0 h.l1).mono ?_; rintro e w' ⟨rfl, rfl⟩)
 go_ret
 exact ⟨rfl, hB⟩
theorem aIi (t : Rk) (w : World) (h : t.ok) : Calls prog 172 #[.agg (kl t).toArray] w fun e w' => e = .returned (.bool t.met) /\ Below w.heap.size w w' := by
 have hB := aE (aH w) (oK t)
 have X : bL (w.alloc (oK t)) w.heap.size t := aD w (oK t)
 have x3 := X.c3
 have x6 := X.c6
 have HA := Hd (fun w' => aCc t w' h)
 have hl := X.lt
 obtain ⟨m, hm⟩ : ∃ m, t.met = m := ⟨_, rfl⟩
 rw [hm]
 unfold Rk.met at hm
 obtain ⟨A, hA⟩ : ∃ A, t.alarm = A := ⟨_, rfl⟩
 rw [hA] at hm HA
 clear hA h
 cases hen : t.en
 . rw [hen] at x6 hm
   have hM := Hd hm
   clear hen hm
   go_enter func172, ntmps172
   go_upto_region 1 with (fail)
   rw [eV]
   generalize w.alloc (oK t) = W at *
   have hg := bC
   refine wp_region_quiet_below (by kernel_rfl) (by kernel_rfl) ?_
   repeat (go_big_quiet_step (fail))
   refine wpQuiet_nil ?_
   intro _ hw'
   obtain ⟨⟨dq, osq⟩, hw''⟩ := hw'
   subst hw''
   go_wp2_with fail
   go_ret
   exact ⟨cU hM.out, trG hB _ _⟩
 . rw [hen] at x6 hm
   have hM := Hd hm
   clear hen hm
   go_enter func172, ntmps172
   go_upto_region 1 with (fail)
   rw [eV]
   generalize w.alloc (oK t) = W at *
   have hg := bC
   refine wp_region_quiet_below (by kernel_rfl) (by kernel_rfl) ?_
   repeat (first
    | go_big_quiet_skip
    | (go_big_quiet_want; first
        | (refine aCw (.tmp 1) rfl rfl X.grown ?_; go_simp; go_big_quiet_on)
        | (go_big_quiet_op; first
            | go_big_quiet_on
            | go_big_quiet_call (first | (go_at_call 170; exact Calls.regrown_of (HA.out _))))))
   refine wpQuiet_nil ?_
   intro _ hw'
   obtain ⟨⟨dq, osq⟩, hw''⟩ := hw'
   subst hw''
   go_wp2_with fail
   go_ret
   exact ⟨cU (by rw [<- hM.out]; simp), trG hB _ _⟩
theorem aEH {a b : Rk} (h : b.met = false) : Rk.behind a b = b := by unfold Rk.behind; rw [h]; rfl
theorem aCK {a b : Rk} (h : a.met = true) : Rk.behind a b = b := by unfold Rk.behind; rw [h]; simp
theorem aCL {a b : Rk} (h : a.met = false) (k : b.met = true) : Rk.behind a b = { b with st := true } := by unfold Rk.behind; rw [h, k]; rfl
theorem jS (a b : Rk) (w : World) (ha : a.ok) (hb : b.ok) :
 Calls prog 139 #[.agg (kl a).toArray, .agg (kl b).toArray] w fun e w' => e = .returned (.agg (kl (Rk.behind a b)).toArray) /\ Below w.heap.size w w' := by
 have hB := aE (aE (aE (aH w) (oK a)) (oK b)) zK
 have X : bL (((w.alloc (oK a)).alloc (oK b)).alloc zK) w.heap.size a := aCA w _ _ _
 have Y : bL (((w.alloc (oK a)).alloc (oK b)).alloc zK) (w.heap.size + 1) b := aCB w _ _ _
 have Z : bL (((w.alloc (oK a)).alloc (oK b)).alloc zK) (w.heap.size + 2) mI := aCC w _ _ _
 have HA := Hd (fun w' => aIi a w' ha)
 have HM := Hd (fun w' => aIi b w' hb)
 clear ha hb
 obtain ⟨p, hp⟩ : ∃ p, a.met = p := ⟨_, rfl⟩
 obtain ⟨q, hq⟩ : ∃ q, b.met = q := ⟨_, rfl⟩
 rw [hp] at HA
 rw [hq] at HM
 cases q
 . rw [aEH hq]
   clear hp hq HA
   go_enter func139, ntmps139
   go_upto_region 1 with (fail)
   rw [eV, eV, dH]
   generalize ((w.alloc (oK a)).alloc (oK b)).alloc zK = W at *
   go_wp2_with (refine dF rfl (.tmp 3) rfl rfl Y ?_)
   refine (HM.out _).mono ?_
   rintro e W1 ⟨rfl, hb⟩
   have X1 := X.below hb
   have Y1 := Y.below hb
   have Z1 := Z.below hb
   have hB1 := tr hB hb
   clear X Y Z hB hb HM
   have R := bL.row Z1 b
   have hB2 := aB hB1 (kl b).toArray (g := w.heap.size + 2) (by omega)
   go_wp2_with (first | (refine dF rfl (.tmp 3) rfl rfl Y1 ?_) | (refine fL rfl (.tmp 4) (.tmp 13) rfl rfl (t := b) rfl Z1 ?_))
   refine bodyPost_ret (aHM rfl _ _ rfl R) rfl ⟨rfl, hB2⟩
 . have he : Rk.behind a b = (if p = true then b else { b with st := true }) := by
    cases p
    . exact aCL hp hq
    . exact aCK hp
   rw [he]
   clear he hp hq
   go_enter func139, ntmps139
   go_upto_region 1 with (fail)
   rw [eV, eV, dH]
   generalize ((w.alloc (oK a)).alloc (oK b)).alloc zK = W at *
   go_wp2_with (refine dF rfl (.tmp 3) rfl rfl Y ?_)
   refine (HM.out _).mono ?_
   rintro e W1 ⟨rfl, hb⟩
   have X1 := X.below hb
   have Y1 := Y.below hb
   have Z1 := Z.below hb
   have hB1 := tr hB hb
   clear X Y Z hB hb HM
   go_wp2_with (first | (refine aCh (.tmp 2) rfl rfl rfl X1 ?_) | (refine dF rfl (.tmp 2) rfl rfl X1 ?_))
   refine (HA.out _).mono ?_
   rintro e W2 ⟨rfl, hb⟩
   have Y2 := Y1.below hb
   have Z2 := Z1.below hb
   have hB2 := tr hB1 hb
   clear X1 Y1 Z1 hB1 hb HA
   cases p
   . have f7 := Y2.free 7
     have Y3 : bL _ _ { b with st := true } := Y2.s7 true
     have Z3 := Z2.other (w.heap.size + 1) 7 (.bool true) (by omega)
     have hB3 := hB2.setCell (p := ⟨w.heap.size + 1, 7, none⟩) (by simp) (.bool true)
     have x7 := Y2.c7
     go_upto_region 3 with (fail)
     clear Y2 Z2 hB2 f7 x7
     generalize (W2.setCell ⟨w.heap.size + 1, 7, none⟩ (.bool true)) = W3 at *
     have R := bL.row Z3 { b with st := true }
     have hB4 := aB hB3 (kl { b with st := true }).toArray (g := w.heap.size + 2) (by omega)
     go_wp2_with (first | (refine dF rfl (.tmp 3) rfl rfl Y3 ?_) | (refine fL rfl (.tmp 4) (.tmp 13) rfl rfl (t := { b with st := true }) rfl Z3 ?_))
     refine bodyPost_ret (aHM rfl _ _ rfl R) rfl ⟨rfl, hB4⟩
   . have R := bL.row Z2 b
     have hB3 := aB hB2 (kl b).toArray (g := w.heap.size + 2) (by omega)
     go_wp2_with (first | (refine dF rfl (.tmp 3) rfl rfl Y2 ?_) | (refine fL rfl (.tmp 4) (.tmp 13) rfl rfl (t := b) rfl Z2 ?_))
     refine bodyPost_ret (aHM rfl _ _ rfl R) rfl ⟨rfl, hB3⟩
theorem aLy (t : Rk) (w : World) :
 Calls prog 141 #[.agg (kl t).toArray] w fun e w' => e = .returned (.agg (kl t.zero).toArray) /\ Below w.heap.size w w' := by
 have hB := aE (aE (aH w) (oK t)) zK
 have X : bL ((w.alloc (oK t)).alloc zK) w.heap.size t := bM w _ _
 have Z : bL ((w.alloc (oK t)).alloc zK) (w.heap.size + 1) mI := bU w _ _
 have x0 := X.c0
 have x1 := X.c1
 have x3 := X.c3
 go_enter func141, ntmps141
 go_upto_region 1 with (fail)
 rw [eV, dH]
 generalize (w.alloc (oK t)).alloc zK = W at *
 have R := bL.row Z t.zero
 have hB2 := aB hB (kl t.zero).toArray (g := w.heap.size + 1) (by omega)
 go_wp2_with (refine fL rfl (.tmp 2) (.tmp 9) rfl rfl (t := t.zero) rfl Z ?_)
 refine bodyPost_ret (aHM rfl _ _ rfl R) rfl ⟨rfl, hB2⟩
end Go.Proofs.YtaohacadochldaaGreat.B
