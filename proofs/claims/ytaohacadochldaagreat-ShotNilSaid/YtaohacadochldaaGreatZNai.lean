/- A part of the proof of a law of layer 12: ai. -/
import Derived.Test.YtaohacadochldaaGreatZNah
set_option linter.unusedVariables false
set_option linter.unusedSimpArgs false
set_option maxHeartbeats 12800000
set_option maxRecDepth 100000
namespace Go.Proofs.YtaohacadochldaaGreat.B
open Go.Proofs.Tryz
open Go.ChangeShapes Go.WideShapes Go.RowKit Go.Sort
def dl (t : Wd) : List Value := [.bool t.en, .bool t.lk, .int .i64 t.fa, .int .u32 t.cl, .int .u32 t.tot, .int .u64 t.si, .bool t.ar]
abbrev tD : TypeId := 252
def bR (w : World) (b : Nat) (t : Wd) : Prop := w.heap[b]? = some (.cells (dl t).toArray tD (0, 0))
section
variable {w w' : World} {b : Nat} {t : Wd}
theorem bR.lt (h : bR w b t) : b < w.heap.size := lt_of_block h
theorem bR.below (h : bR w b t) (hb : Below w.heap.size w w') : bR w' b t := aB hb h h.lt
theorem bR.off {S : Nat -> Prop} (h : bR w b t) (ho : aD S w w') (hs : ¬ S b) : bR w' b t := ho.at h hs
theorem bR.free (h : bR w b t) (j : Nat) : w.frozen? ⟨b, j, none⟩ = false := aH h j
theorem bR.c0 (h : bR w b t) : w.cell? ⟨b, 0, none⟩ = some (.bool t.en) := by rw [aA h 0]; rfl
theorem bR.c1 (h : bR w b t) : w.cell? ⟨b, 1, none⟩ = some (.bool t.lk) := by rw [aA h 1]; rfl
theorem bR.c2 (h : bR w b t) : w.cell? ⟨b, 2, none⟩ = some (.int .i64 t.fa) := by rw [aA h 2]; rfl
theorem bR.c3 (h : bR w b t) : w.cell? ⟨b, 3, none⟩ = some (.int .u32 t.cl) := by rw [aA h 3]; rfl
theorem bR.c4 (h : bR w b t) : w.cell? ⟨b, 4, none⟩ = some (.int .u32 t.tot) := by rw [aA h 4]; rfl
theorem bR.c5 (h : bR w b t) : w.cell? ⟨b, 5, none⟩ = some (.int .u64 t.si) := by rw [aA h 5]; rfl
theorem bR.c6 (h : bR w b t) : w.cell? ⟨b, 6, none⟩ = some (.bool t.ar) := by rw [aA h 6]; rfl
theorem bR.set (h : bR w b t) (j : Nat) (x : Value) {s : Wd} (he : (dl t).set j x = dl s) : bR (w.setCell ⟨b, j, none⟩ x) b s := by
 unfold bR; rw [aK h, <- he]; simp
theorem bR.s0 (h : bR w b t) (x : Bool) : bR (w.setCell ⟨b, 0, none⟩ (.bool x)) b { t with en := x } := h.set _ _ rfl
theorem bR.s1 (h : bR w b t) (x : Bool) : bR (w.setCell ⟨b, 1, none⟩ (.bool x)) b { t with lk := x } := h.set _ _ rfl
theorem bR.s2 (h : bR w b t) (x : Int) : bR (w.setCell ⟨b, 2, none⟩ (.int .i64 x)) b { t with fa := x } := h.set _ _ rfl
theorem bR.s3 (h : bR w b t) (x : Int) : bR (w.setCell ⟨b, 3, none⟩ (.int .u32 x)) b { t with cl := x } := h.set _ _ rfl
theorem bR.s4 (h : bR w b t) (x : Int) : bR (w.setCell ⟨b, 4, none⟩ (.int .u32 x)) b { t with tot := x } := h.set _ _ rfl
theorem bR.s5 (h : bR w b t) (x : Int) : bR (w.setCell ⟨b, 5, none⟩ (.int .u64 x)) b { t with si := x } := h.set _ _ rfl
theorem bR.s6 (h : bR w b t) (x : Bool) : bR (w.setCell ⟨b, 6, none⟩ (.bool x)) b { t with ar := x } := h.set _ _ rfl
theorem bR.elseRow (h : bR w b t) (g : Nat) (cs : Array Value) (hne : b ≠ g) : bR (w.setRow g cs) b t := dR g cs h hne
end
theorem aDe (w : World) : Calls prog 100 #[] w fun e w' => e = .returned (.pointer (some ⟨w.heap.size, 0, none⟩)) /\ w' = w.alloc (.cells (dl wz).toArray tD (0, 0)) := by
 go_enter func100, ntmps100
 exact aI
theorem vL (t : Wd) (p : Nat) (w : World) (a : bR w p t) : Calls prog 109 #[.pointer (some ⟨p, 0, none⟩)] w fun e w' => e = .returned (.int .i64 t.fa) /\ w = w' := by
 have x := a.c2
 go_enter func109, ntmps109
 exact aI
theorem vK (t : Wd) (p : Nat) (w : World) (a : bR w p t) : Calls prog 161 #[.pointer (some ⟨p, 0, none⟩)] w fun e w' => e = .returned (.bool t.en) /\ w = w' := by
 have x := a.c0
 go_enter func161, ntmps161
 go_wp2_with fail
 go_ret
 exact ⟨bM (by simp), rfl⟩
def oS (t : Wd) : Obj := .cells #[.bool t.en, .bool t.lk, .int .i64 t.fa] 250 (0, 0)
theorem aCi (t : Wd) (w : World) : Calls prog 208 #[.agg #[.bool t.en, .bool t.lk, .int .i64 t.fa]] w fun e w' => e = .returned (.bool (decide (t.en = true /\ t.fa = 0))) /\ Below w.heap.size w w' := by
 have hb := aO (aT w) (oS t)
 by_cases hf : t.fa = 0
 . have q : (t.fa == 0) = true := by simpa using hf
   obtain ⟨en, hen⟩ : ∃ b, t.en = b := ⟨_, rfl⟩
   rw [hen]
   cases en
   all_goals
    rw [hf]
    have hb := aO (aT w) (.cells #[.bool t.en, .bool t.lk, .int .i64 t.fa] 250 (0, 0))
    rw [hf, hen] at hb
    go_enter func208, ntmps208
    go_wp2_with fail
    go_ret
    exact ⟨bM (by simp), hb⟩
 . have q : (t.fa == 0) = false := by simpa using hf
   have hd : decide (t.en = true /\ t.fa = 0) = false := by simp [hf]
   rw [hd]
   clear hf hd
   obtain ⟨en, hen⟩ : ∃ b, t.en = b := ⟨_, rfl⟩
   unfold oS at hb
   rw [hen] at hb ⊢
   cases en
   all_goals
    go_enter func208, ntmps208
    go_wp2_with fail
    go_ret
    exact ⟨rfl, hb⟩
theorem aCg (t : Wd) (w : World) : Calls prog 290 #[.agg #[.bool t.en, .bool t.lk, .int .i64 t.fa]] w fun e w' => e = .returned (.bool (decide (t.en = false /\ t.lk = false /\ t.fa = 0))) /\ Below w.heap.size w w' := by
 have hb := aO (aT w) (oS t)
 have hd : decide (t.en = false /\ t.lk = false /\ t.fa = 0) = ((t.en == false) && ((t.lk == false) && (t.fa == 0))) := by cases t.en <;> cases t.lk <;> first | (simp; done) | (simp; rfl)
 rw [hd]
 unfold oS at hb
 clear hd
 cases q : (t.fa == 0)
 all_goals
  obtain ⟨en, hen⟩ : ∃ b, t.en = b := ⟨_, rfl⟩
  obtain ⟨lk, hlk⟩ : ∃ b, t.lk = b := ⟨_, rfl⟩
  rw [hen, hlk] at hb ⊢
  cases en <;> cases lk
  all_goals
   go_enter func290, ntmps290
   go_wp2_with fail
   go_ret
   exact ⟨rfl, hb⟩
theorem aBs : put 0 0 1 1 = 1 := by decide +kernel
theorem aAI : put 0 1 1 1 = 2 := by decide +kernel
theorem aAJ : put 1 1 1 1 = 3 := by decide +kernel
theorem vJ (t : Wd) (w : World) : Calls prog 207 #[.agg #[.bool t.en, .bool t.lk, .int .i64 t.fa]] w fun e w' => e = .returned (.int .u32 (tk t.en + 2 * tk t.lk)) /\ Below w.heap.size w w' := by
 have hb := aO (aT w) (oS t)
 unfold oS at hb
 obtain ⟨en, hen⟩ : ∃ b, t.en = b := ⟨_, rfl⟩
 obtain ⟨lk, hlk⟩ : ∃ b, t.lk = b := ⟨_, rfl⟩
 have P1 := Hd (fun w => by have := zI 0 0 1 1 w (by omega) (by omega) (by omega) (by omega) (by omega) (by omega); rw [aBs] at this; exact this)
 have P2 := Hd (fun w => by have := zI 0 1 1 1 w (by omega) (by omega) (by omega) (by omega) (by omega) (by omega); rw [aAI] at this; exact this)
 have P3 := Hd (fun w => by have := zI 1 1 1 1 w (by omega) (by omega) (by omega) (by omega) (by omega) (by omega); rw [aAJ] at this; exact this)
 rw [hen, hlk] at hb ⊢
 cases en <;> cases lk
 . go_enter func207, ntmps207
   exact cV
 . go_enter func207, ntmps207
   go_wp2_with fail
   refine (P2.out _).mono ?_
   rintro e w' ⟨rfl, rfl⟩
   exact cV
 . go_enter func207, ntmps207
   go_wp2_with fail
   refine (P1.out _).mono ?_
   rintro e w' ⟨rfl, rfl⟩
   exact cV
 . go_enter func207, ntmps207
   go_wp2_with fail
   refine (P1.out _).mono ?_
   rintro e w' ⟨rfl, rfl⟩
   go_wp2_with fail
   refine (P3.out _).mono ?_
   rintro e w' ⟨rfl, rfl⟩
   exact cV
theorem yX {o : Int} (h : (o % 4 != 0) = true) : dD o = 11 := by unfold dD; rw [if_pos (by simpa using h)]
theorem yW {o : Int} (h : (o % 4 != 0) = false) (k : 20 <= o) : dD o = 10 := by unfold dD; rw [if_neg (by simpa using h), if_neg (by omega)]
theorem aAe {o : Int} (h : (o % 4 != 0) = false) (k : o < 20) : dD o = 0 := by
 unfold dD; have : o % 4 = 0 := by simpa using h
 rw [if_neg (by simpa using h), if_pos (by omega)]
theorem mM {o : Int} (o0 : 0 <= o) (h : dD o = 0) : o = 0 \/ o = 4 \/ o = 8 \/ o = 12 \/ o = 16 := by
 unfold dD at h
 split at h
 . cases h
 . split at h
   . rename_i h1 h2
     have : o % 4 = 0 := by simpa using h1
     omega
   . cases h
theorem fX (x : Option Addr) (o : Int) (w : World) (o0 : 0 <= o) (o1 : o < 4294967296) (e : Int) (he : (if x = none then 10 else dD o) = e) :
 Calls prog 206 #[.pointer x, .int .u32 o] w fun e' w' => e' = .returned (.int .i64 e) /\ w = w' := by
 cases x with
 | none =>
   rw [if_pos rfl] at he; subst he
   go_enter func206, ntmps206
   go_wp2_with fail
   go_ret
   exact ⟨rfl, rfl⟩
 | some x =>
   rw [if_neg (by simp)] at he
   cases h4 : (o % 4 != 0)
   . by_cases h8 : 20 <= o
     . rw [yW h4 h8] at he; subst he
       go_enter func206, ntmps206
       go_wp2_with fail
       go_ret
       exact ⟨rfl, rfl⟩
     . rw [aAe h4 (by omega)] at he; subst he
       go_enter func206, ntmps206
       go_wp2_with fail
       go_ret
       exact ⟨rfl, rfl⟩
   . rw [yX h4] at he; subst he
     go_enter func206, ntmps206
     go_wp2_with fail
     go_ret
     exact ⟨rfl, rfl⟩
theorem wW {a : Int} (h0 : 0 <= a) (h1 : a < 4294967296) : lo a = a := by unfold lo; omega
theorem Wd.val_none {t : Wd} {o : Int} (o0 : 0 <= o) (h : dD o ≠ 0) : t.val o = 0 := by
 unfold Wd.val
 rw [if_neg (fun e => h (by rw [e]; rfl)), if_neg (fun e => h (by rw [e]; rfl)), if_neg (fun e => h (by rw [e]; rfl)), if_neg (fun e => h (by rw [e]; rfl))]
theorem aCh (t : Wd) (o : Int) (p : Nat) (w : World) (h : t.ok) (a : bR w p t) (o0 : 0 <= o) (o1 : o < 4294967296) :
 Calls prog 160 #[.pointer (some ⟨p, 0, none⟩), .int .u32 o] w fun e w' => e = .returned (.tuple #[.int .u32 (t.val o), .int .i64 (dD o)]) /\ Below w.heap.size w w' := by
 have x0 := a.c0
 have x1 := a.c1
 have x2 := a.c2
 have x3 := a.c3
 have x4 := a.c4
 have x5 := a.c5
 have s0 := h.s0
 have s1 : t.si < 4294967296 := by have := h.s1; have := h.t1; omega
 have hL := Hd (fun w => by have := Lo t.si w s0 (by omega); rw [wW s0 s1] at this; exact this)
 have hC := Hd (fun w => vJ t w)
 clear a h
 by_cases he : dD o = 0
 . rcases mM o0 he with rfl | rfl | rfl | rfl | rfl
   . go_enter func160, ntmps160
     go_wp2_with (go_at_call 206; refine (fX _ _ _ (by omega) (by omega) 0 (by rfl)).mono ?_; rintro e w' ⟨rfl, rfl⟩)
     refine (hC.out _).mono ?_
     rintro e w1 ⟨rfl, hb⟩
     go_wp2_with fail
     go_ret2
     exact ⟨rfl, hb⟩
   all_goals
    go_enter func160, ntmps160
    go_wp2_with (first | (go_at_call 206; refine (fX _ _ _ (by omega) (by omega) 0 (by rfl)).mono ?_; rintro e w' ⟨rfl, rfl⟩) | (go_at_call 55; refine (hL.out _).mono ?_; rintro e w' ⟨rfl, rfl⟩))
    go_ret2
    exact ⟨rfl, aT w⟩
 . rw [Wd.val_none o0 he]
   have hc : (if (some (⟨p, 0, none⟩ : Addr)) = none then 10 else dD o) = dD o := by rw [if_neg (by simp)]
   have hn : (dD o == 0) = false := by simpa using he
   have hn2 : (dD o != 0) = true := by simpa using he
   go_enter func160, ntmps160
   go_wp2_with fail
   refine (fX _ _ _ o0 o1 _ hc).mono ?_
   rintro e w' ⟨rfl, rfl⟩
   go_wp2_with fail
   go_ret2
   exact ⟨rfl, aT w⟩
theorem xJ (w : World) (p : Nat) (cs : Array Value) : aD (· = p) w (w.setRow p cs) := ⟨rfl, rfl, rfl, by simp, fun k _ hs => setRow_other w p k cs hs⟩
theorem zZ {t : Wd} {v : Int} (hen : t.en = true) (h : v = 23130) : t.key v = { t with ar := true } := by unfold Wd.key; rw [if_neg (by rw [hen]; simp), if_pos h]
theorem tF {t : Wd} {v : Int} (hen : t.en = true) (h : v = 42405) (ha : t.ar = true) (hs : t.si < t.cl) : t.key v = { t with fa := 4 } := by
 unfold Wd.key; rw [if_neg (by rw [hen]; simp), if_neg (by omega), if_pos ⟨h, ha⟩, if_pos hs]
theorem wH {t : Wd} {v : Int} (hen : t.en = true) (h : v = 42405) (ha : t.ar = true) (hs : ¬ t.si < t.cl) : t.key v = { t with si := 0, ar := false } := by
 unfold Wd.key; rw [if_neg (by rw [hen]; simp), if_neg (by omega), if_pos ⟨h, ha⟩, if_neg hs]
theorem lY {t : Wd} {v : Int} (hen : t.en = true) (h : v ≠ 23130) (ha : ¬ (v = 42405 /\ t.ar = true)) (hs : t.si < t.cl) : t.key v = { t with fa := 8 } := by
 unfold Wd.key; rw [if_neg (by rw [hen]; simp), if_neg h, if_neg ha, if_pos hs]
theorem wI {t : Wd} {v : Int} (hen : t.en = true) (h : v ≠ 23130) (ha : ¬ (v = 42405 /\ t.ar = true)) (hs : ¬ t.si < t.cl) : t.key v = { t with ar := false } := by
 unfold Wd.key; rw [if_neg (by rw [hen]; simp), if_neg h, if_neg ha, if_neg hs]
theorem aCk (t : Wd) (v : Int) (p : Nat) (w : World) (h : t.ok) (a : bR w p t) (hen : t.en = true) (v0 : 0 <= v) (v1 : v < 4294967296) :
 Calls prog 291 #[.pointer (some ⟨p, 0, none⟩), .int .u32 v] w fun e w' => e = .returned (.tuple #[]) /\ bR w' p (t.key v) /\ aD (· = p) w w' := by
 obtain ⟨R, hR⟩ : ∃ R, t.key v = R := ⟨_, rfl⟩
 rw [hR]
 have HR := Hd hR
 clear hR
 have x3 := a.c3
 have x5 := a.c5
 have c0 := h.c0
 have c1 := h.c1
 have s0 := h.s0
 have hl := a.lt
 clear h
 go_enter func291, ntmps291
 go_wp2_with fail
 have hg := bP
 refine wp_region_quiet_below (by kernel_rfl) (by kernel_rfl) ?_
 repeat (go_big_quiet_step (fail))
 refine wpQuiet_nil ?_
 intro _ hw'
 obtain ⟨⟨dq, osq⟩, hw''⟩ := hw'
 subst hw''
 have hbr := below_regrown w dq osq
 have ho := aD.ofBelow (S := (· = p)) hbr
 have A := a.below hbr
 clear a hbr hg x3 x5 hl c0 c1 s0
 dsimp only at A ho ⊢
 generalize grow (redrawn w dq) osq = W at *
 obtain ⟨sh, hsh⟩ : ∃ b, decide (t.si < t.cl) = b := ⟨_, rfl⟩
 simp only [hsh]
 have x2 := A.c2
 have x5 := A.c5
 have x6 := A.c6
 have f2 := A.free 2
 have f5 := A.free 5
 have f6 := A.free 6
 by_cases h1 : v = 23130
 . subst h1
   go_wp2_with fail
   go_end0
   exact ⟨rfl, by rw [<- HR.out, zZ hen rfl]; exact A.s6 true, ho.trans (aG _ _ _ _)⟩
 . have q1 : (v == 23130) = false := by simpa using h1
   by_cases h2 : v = 42405
   . subst h2
     obtain ⟨ar, har⟩ : ∃ b, t.ar = b := ⟨_, rfl⟩
     rw [har] at x6
     cases ar <;> cases sh
     . go_wp2_with fail
       go_end0
       exact ⟨rfl, by rw [<- HR.out, wI hen (by omega) (by rw [har]; simp) (by simpa using hsh)]; exact A.s6 false, ho.trans (aG _ _ _ _)⟩
     . go_wp2_with fail
       go_end0
       exact ⟨rfl, by rw [<- HR.out, lY hen (by omega) (by rw [har]; simp) (by simpa using hsh)]; exact A.s2 8, ho.trans (aG _ _ _ _)⟩
     . go_wp2_with fail
       go_end0
       exact ⟨rfl, by rw [<- HR.out, wH hen rfl har (by simpa using hsh)]; exact (A.s5 0).s6 false, (ho.trans (aG _ _ _ _)).trans (aG _ _ _ _)⟩
     . go_wp2_with fail
       go_end0
       exact ⟨rfl, by rw [<- HR.out, tF hen rfl har (by simpa using hsh)]; exact A.s2 4, ho.trans (aG _ _ _ _)⟩
   . have q2 : (v == 42405) = false := by simpa using h2
     cases sh
     . go_wp2_with fail
       go_end0
       exact ⟨rfl, by rw [<- HR.out, wI hen h1 (fun e => h2 e.1) (by simpa using hsh)]; exact A.s6 false, ho.trans (aG _ _ _ _)⟩
     . go_wp2_with fail
       go_end0
       exact ⟨rfl, by rw [<- HR.out, lY hen h1 (fun e => h2 e.1) (by simpa using hsh)]; exact A.s2 8, ho.trans (aG _ _ _ _)⟩
theorem vT (v : Int) (v0 : 0 <= v) : field v 0 1 = v % 2 := by
 unfold field
 rw [if_pos (by decide), show (0 : Int).toNat = 0 from rfl, show (2 : Nat) ^ min (1 : Int).toNat 32 = 2 by decide, Nat.pow_zero, Nat.div_one]; omega
theorem vU (v : Int) (v0 : 0 <= v) : field v 1 1 = v / 2 % 2 := by
 unfold field
 rw [if_pos (by decide), show (2 : Nat) ^ (1 : Int).toNat = 2 by decide, show (2 : Nat) ^ min (1 : Int).toNat 32 = 2 by decide]; omega
theorem aBG {t : Wd} {v : Int} (hl : t.lk = false) (he : t.en = false) (hv : v % 2 = 1) (hc : t.cl < t.tot) : t.ctlPut v = { t with en := true, si := 0, ar := false, lk := (v / 2 % 2 == 1) } := by
 unfold Wd.ctlPut Wd.ctlTo; rw [if_neg (by rw [hl]; simp), if_pos ⟨he, hv, hc⟩]
theorem zP {t : Wd} {v : Int} (hl : t.lk = false) (he : t.en = true) (hv : v % 2 = 0) : t.ctlPut v = { t with en := false, si := 0, ar := false, lk := (v / 2 % 2 == 1) } := by
 unfold Wd.ctlPut Wd.ctlTo; rw [if_neg (by rw [hl]; simp), if_neg (by rw [he]; simp), if_pos ⟨he, hv⟩]
theorem jJ {t : Wd} {v : Int} (hl : t.lk = false) (h1 : ¬ (t.en = false /\ v % 2 = 1 /\ t.cl < t.tot)) (h2 : ¬ (t.en = true /\ v % 2 = 0)) : t.ctlPut v = { t with lk := (v / 2 % 2 == 1) } := by
 unfold Wd.ctlPut Wd.ctlTo; rw [if_neg (by rw [hl]; simp), if_neg h1, if_neg h2]
theorem kV {P : Prop} (h : P := by
 go_wp2_with fail
 refine (F1.out _).mono ?_
 rintro e1 w2 ⟨rfl, k2, rfl⟩
 have A2 := A1.below (nS (aT W1) k2)
 have ho2 := ho1.trans (aD.ofBelow (S := (· = p)) (nS (aT W1) k2))
 clear A1 ho1 x0 x1 x5 x6 f0 f5 f6
 generalize W1.drewN k2 = W2 at *
 have x1 := A2.c1
 have f1 := A2.free 1
 go_wp2_with fail
 go_end0
 exact ⟨rfl, by rw [<- HR.out, jJ hlk (fun h => by rw [hen] at h; simp at h) (fun h => by simp at hev; omega), hlv]; exact A2.s1 l, ho2.trans (aG _ _ _ _)⟩
 ) : P := h
theorem aBH (t : Wd) (v : Int) (p : Nat) (w : World) (h : t.ok) (a : bR w p t) (hlk : t.lk = false) (v0 : 0 <= v) (v1 : v < 4294967296) :
 Calls prog 289 #[.pointer (some ⟨p, 0, none⟩), .int .u32 v] w fun e w' => e = .returned (.tuple #[]) /\ bR w' p (t.ctlPut v) /\ aD (· = p) w w' := by
 obtain ⟨R, hR⟩ : ∃ R, t.ctlPut v = R := ⟨_, rfl⟩
 rw [hR]
 have HR := Hd hR
 clear hR
 have F0 := Hd (fun w => by have := Field v 0 1 w v0 v1 (by omega) (by omega); rw [vT v v0] at this; exact this)
 have F1 := Hd (fun w => by have := Field v 1 1 w v0 v1 (by omega) (by omega); rw [vU v v0] at this; exact this)
 obtain ⟨l, hlv⟩ : ∃ b, (v / 2 % 2 == 1) = b := ⟨_, rfl⟩
 obtain ⟨e, hev⟩ : ∃ b, (v % 2 == 1) = b := ⟨_, rfl⟩
 obtain ⟨lt, hlt⟩ : ∃ b, decide (t.cl < t.tot) = b := ⟨_, rfl⟩
 obtain ⟨en, hen⟩ : ∃ b, t.en = b := ⟨_, rfl⟩
 go_enter func289, ntmps289
 go_wp2_with fail
 refine (F0.out _).mono ?_
 rintro e0 w1 ⟨rfl, k, rfl⟩
 have hb := nS (aT w) k
 have ho := aD.ofBelow (S := (· = p)) hb
 have A := a.below hb
 clear a hb
 generalize w.drewN k = W0 at *
 have hl := A.lt
 have x3 := A.c3
 have x4 := A.c4
 have hg := bP
 cases e
 . go_wp2_with fail
   refine wp_region_quiet_below (by kernel_rfl) (by kernel_rfl) ?_
   repeat (go_big_quiet_step (fail))
   refine wpQuiet_nil ?_
   intro _ hw'
   obtain ⟨⟨dq, osq⟩, hw''⟩ := hw'
   subst hw''
   have hbr := below_regrown W0 dq osq
   have ho1 := ho.trans (aD.ofBelow (S := (· = p)) hbr)
   have A1 := A.below hbr
   clear A ho hbr hg hl x3 x4
   dsimp only at A1 ho1 ⊢
   generalize grow (redrawn W0 dq) osq = W1 at *
   have x0 := A1.c0
   have x1 := A1.c1
   have x5 := A1.c5
   have x6 := A1.c6
   have f0 := A1.free 0
   have f5 := A1.free 5
   have f6 := A1.free 6
   rw [hen] at x0
   cases en
   . go_wp2_with fail
     refine (F1.out _).mono ?_
     rintro e1 w2 ⟨rfl, k2, rfl⟩
     have A2 := A1.below (nS (aT W1) k2)
     have ho2 := ho1.trans (aD.ofBelow (S := (· = p)) (nS (aT W1) k2))
     clear A1 ho1 x0 x1 x5 x6 f0 f5 f6
     generalize W1.drewN k2 = W2 at *
     have x1 := A2.c1
     have f1 := A2.free 1
     go_wp2_with fail
     go_end0
     exact ⟨rfl, by rw [<- HR.out, jJ hlk (fun h => by simp at hev; omega) (fun h => by rw [hen] at h; simp at h), hlv]; exact A2.s1 l, ho2.trans (aG _ _ _ _)⟩
   . have A3 : bR (((W1.setCell ⟨p, 0, none⟩ (.bool false)).setCell ⟨p, 5, none⟩ (.int .u64 0)).setCell ⟨p, 6, none⟩ (.bool false)) p { t with en := false, si := 0, ar := false } := ((A1.s0 false).s5 0).s6 false
     have ho3 := ((ho1.trans (aG W1 p 0 (.bool false))).trans (aG _ p 5 (.int .u64 0))).trans (aG _ p 6 (.bool false))
     go_wp2_with fail
     refine (F1.out _).mono ?_
     rintro e1 w2 ⟨rfl, k2, rfl⟩
     clear A1 ho1 x0 x1 x5 x6 f0 f5 f6
     generalize (((W1.setCell ⟨p, 0, none⟩ (.bool false)).setCell ⟨p, 5, none⟩ (.int .u64 0)).setCell ⟨p, 6, none⟩ (.bool false)) = W4 at *
     have A2 := A3.below (nS (aT W4) k2)
     have ho2 := ho3.trans (aD.ofBelow (S := (· = p)) (nS (aT W4) k2))
     clear A3 ho3
     generalize W4.drewN k2 = W2 at *
     have x1 := A2.c1
     have f1 := A2.free 1
     go_wp2_with fail
     go_end0
     exact ⟨rfl, by rw [<- HR.out, zP hlk hen (by simp at hev; omega), hlv]; exact A2.s1 l, ho2.trans (aG _ _ _ _)⟩
 . cases lt
   all_goals
    go_wp2_with fail
    refine wp_region_quiet_below (by kernel_rfl) (by kernel_rfl) ?_
    repeat (go_big_quiet_step (fail))
    refine wpQuiet_nil ?_
    intro _ hw'
    obtain ⟨⟨dq, osq⟩, hw''⟩ := hw'
    subst hw''
    have hbr := below_regrown W0 dq osq
    have ho1 := ho.trans (aD.ofBelow (S := (· = p)) hbr)
    have A1 := A.below hbr
    clear A ho hbr hg hl x3 x4
    dsimp only at A1 ho1 ⊢
    generalize grow (redrawn W0 dq) osq = W1 at *
    have x0 := A1.c0
    have x1 := A1.c1
    have x5 := A1.c5
    have x6 := A1.c6
    have f0 := A1.free 0
    have f5 := A1.free 5
    have f6 := A1.free 6
    rw [hen] at x0
    cases en
   . go_wp2_with fail
     refine (F1.out _).mono ?_
     rintro e1 w2 ⟨rfl, k2, rfl⟩
     have A2 := A1.below (nS (aT W1) k2)
     have ho2 := ho1.trans (aD.ofBelow (S := (· = p)) (nS (aT W1) k2))
     clear A1 ho1 x0 x1 x5 x6 f0 f5 f6
     generalize W1.drewN k2 = W2 at *
     have x1 := A2.c1
     have f1 := A2.free 1
     go_wp2_with fail
     go_end0
     exact ⟨rfl, by rw [<- HR.out, jJ hlk (fun h => by simp at hlt; omega) (fun h => by rw [hen] at h; simp at h), hlv]; exact A2.s1 l, ho2.trans (aG _ _ _ _)⟩
   . exact kV
   . have A3 : bR (((W1.setCell ⟨p, 0, none⟩ (.bool true)).setCell ⟨p, 5, none⟩ (.int .u64 0)).setCell ⟨p, 6, none⟩ (.bool false)) p { t with en := true, si := 0, ar := false } := ((A1.s0 true).s5 0).s6 false
     have ho3 := ((ho1.trans (aG W1 p 0 (.bool true))).trans (aG _ p 5 (.int .u64 0))).trans (aG _ p 6 (.bool false))
     go_wp2_with fail
     refine (F1.out _).mono ?_
     rintro e1 w2 ⟨rfl, k2, rfl⟩
     clear A1 ho1 x0 x1 x5 x6 f0 f5 f6
     generalize (((W1.setCell ⟨p, 0, none⟩ (.bool true)).setCell ⟨p, 5, none⟩ (.int .u64 0)).setCell ⟨p, 6, none⟩ (.bool false)) = W4 at *
     have A2 := A3.below (nS (aT W4) k2)
     have ho2 := ho3.trans (aD.ofBelow (S := (· = p)) (nS (aT W4) k2))
     clear A3 ho3
     generalize W4.drewN k2 = W2 at *
     have x1 := A2.c1
     have f1 := A2.free 1
     go_wp2_with fail
     go_end0
     exact ⟨rfl, by rw [<- HR.out, aBG hlk hen (by simpa using hev) (by simpa using hlt), hlv]; exact A2.s1 l, ho2.trans (aG _ _ _ _)⟩
   . exact kV
theorem zU (t : Wd) (h : t.fa = 0) : decide (t.en = false /\ t.lk = false /\ t.fa = 0) = (!(t.lk || t.en)) := by cases t.en <;> cases t.lk <;> simp [h]
theorem hH {P : Prop} (h : P := by
 rintro e w1 ⟨rfl, A, ho⟩
 go_wp2_with fail
 go_end0
 exact ⟨rfl, A, ho⟩
 ) : P := h
theorem kZ {P : Prop} (h : P := by
 go_enter func288, ntmps288
 go_wp2_with fail
 go_end0
 exact ⟨rfl, a, aD.refl _ _⟩
 ) : P := h
theorem aBK (t : Wd) (o v : Int) (p : Nat) (w : World) (h : t.ok) (a : bR w p t) (hf : t.fa = 0) (ho : o = 0 \/ o = 4 \/ o = 8 \/ o = 12) (v0 : 0 <= v) (v1 : v < 4294967296) :
 Calls prog 288 #[.pointer (some ⟨p, 0, none⟩), .int .u32 o, .int .u32 v] w fun e w' => e = .returned (.tuple #[]) /\ bR w' p (t.sto o v) /\ aD (· = p) w w' := by
 have x0 := a.c0
 have x1 := a.c1
 have x2 := a.c2
 have x3 := a.c3
 have x4 := a.c4
 have f3 := a.free 3
 have f4 := a.free 4
 have hfr := aCg t w
 rw [zU t hf] at hfr
 have hfr := Hd hfr
 rcases ho with rfl | rfl | rfl | rfl
 . have hs : t.sto 0 v = t.ctlPut v := by unfold Wd.sto; rw [if_neg (by simp [hf]), if_pos rfl]
   rw [hs]
   have hlk0 : t.lk = true -> t.ctlPut v = t := fun e => by unfold Wd.ctlPut; rw [if_pos e]
   obtain ⟨lk, hlk⟩ : ∃ b, t.lk = b := ⟨_, rfl⟩
   rw [hlk] at x1
   cases lk
   . go_enter func288, ntmps288
     go_wp2_with fail
     refine (aBH t v p w h a hlk v0 v1).mono ?_
     exact hH
   . rw [hlk0 hlk]
     clear hlk0
     exact kZ
 . have hs : t.sto 4 v = (if (t.lk || t.en) = true then t else { t with cl := v }) := by unfold Wd.sto; rw [if_neg (by simp [hf]), if_neg (by decide), if_pos rfl]; simp only [Bool.or_eq_true]
   rw [hs]
   clear hs hf
   cases hq : (t.lk || t.en)
   all_goals
    rw [hq] at hfr
    go_enter func288, ntmps288
    go_wp2_with fail
    refine (hfr.out).mono ?_
    rintro e w1 ⟨rfl, hb⟩
    have A := a.below hb
    have ho := aD.ofBelow (S := (· = p)) hb
    clear a hb hfr x0 x1 x2 x3 x4 f3 f4
    have x3 := A.c3
    have f3 := A.free 3
    go_wp2_with fail
    go_end0
   . exact ⟨rfl, A.s3 v, ho.trans (aG _ _ _ _)⟩
   . exact ⟨rfl, A, ho⟩
 . have hs : t.sto 8 v = (if (t.lk || t.en) = true then t else { t with tot := v }) := by unfold Wd.sto; rw [if_neg (by simp [hf]), if_neg (by decide), if_neg (by decide), if_pos rfl]; simp only [Bool.or_eq_true]
   rw [hs]
   clear hs hf
   cases hq : (t.lk || t.en)
   all_goals
    rw [hq] at hfr
    go_enter func288, ntmps288
    go_wp2_with fail
    refine (hfr.out).mono ?_
    rintro e w1 ⟨rfl, hb⟩
    have A := a.below hb
    have ho := aD.ofBelow (S := (· = p)) hb
    clear a hb hfr x0 x1 x2 x3 x4 f3 f4
    have x4 := A.c4
    have f4 := A.free 4
    go_wp2_with fail
    go_end0
   . exact ⟨rfl, A.s4 v, ho.trans (aG _ _ _ _)⟩
   . exact ⟨rfl, A, ho⟩
 . have hs : t.sto 12 v = t.key v := by unfold Wd.sto; rw [if_neg (by simp [hf]), if_neg (by decide), if_neg (by decide), if_neg (by decide), if_pos rfl]
   rw [hs]
   have hk0 : t.en = false -> t.key v = t := fun e => by unfold Wd.key; rw [if_pos e]
   obtain ⟨en, hen⟩ : ∃ b, t.en = b := ⟨_, rfl⟩
   rw [hen] at x0
   cases en
   . rw [hk0 hen]
     clear hk0
     exact kZ
   . go_enter func288, ntmps288
     go_wp2_with fail
     refine (aCk t v p w h a hen v0 v1).mono ?_
     exact hH
theorem Wd.sto_same {t : Wd} {o v : Int} (h : o ≠ 0 /\ o ≠ 4 /\ o ≠ 8 /\ o ≠ 12) : t.sto o v = t := by
 unfold Wd.sto
 split
 . rfl
 . rw [if_neg h.1, if_neg h.2.1, if_neg h.2.2.1, if_neg h.2.2.2]
theorem Wd.sto_fault {t : Wd} {o v : Int} (h : t.fa ≠ 0) : t.sto o v = t := by unfold Wd.sto; rw [if_pos h]
theorem aBJ (t : Wd) (o v : Int) (p : Nat) (w : World) (h : t.ok) (a : bR w p t) (o0 : 0 <= o) (o1 : o < 4294967296) (v0 : 0 <= v) (v1 : v < 4294967296) :
 Calls prog 287 #[.pointer (some ⟨p, 0, none⟩), .int .u32 o, .int .u32 v] w fun e w' => e = .returned (.int .i64 (kH o)) /\ bR w' p (t.sto o v) /\ aD (· = p) w w' := by
 have x2 := a.c2
 by_cases he : dD o = 0
 . by_cases h16 : o = 16
   . subst h16
     rw [Wd.sto_same (by omega)]
     go_enter func287, ntmps287
     go_wp2_with (first | (go_at_call 206; refine (fX _ _ _ (by omega) (by omega) 0 (by rfl)).mono ?_; rintro e w' ⟨rfl, rfl⟩))
     go_ret
     exact ⟨rfl, a, aD.refl _ _⟩
   . have hs : kH o = 0 := by unfold kH; rw [if_neg h16, he]
     rw [hs]
     have hc : (if (some (⟨p, 0, none⟩ : Addr)) = none then 10 else dD o) = 0 := by rw [if_neg (by simp), he]
     have h4 : o = 0 \/ o = 4 \/ o = 8 \/ o = 12 := by have := mM o0 he; omega
     have q16 : (o == 16) = false := by simpa using h16
     clear he hs h16
     by_cases hf : t.fa = 0
     . rw [hf] at x2
       go_enter func287, ntmps287
       go_wp2_with (first | (go_at_call 206; refine (fX _ _ _ o0 o1 0 hc).mono ?_; rintro e w' ⟨rfl, rfl⟩))
       refine (aBK t o v p w h a hf h4 v0 v1).mono ?_
       rintro e w1 ⟨rfl, A, ho⟩
       go_wp2_with fail
       go_ret
       exact ⟨rfl, A, ho⟩
     . rw [Wd.sto_fault hf]
       have q : (t.fa == 0) = false := by simpa using hf
       go_enter func287, ntmps287
       go_wp2_with (first | (go_at_call 206; refine (fX _ _ _ o0 o1 0 hc).mono ?_; rintro e w' ⟨rfl, rfl⟩))
       go_ret
       exact ⟨rfl, a, aD.refl _ _⟩
 . have n0 : o ≠ 0 /\ o ≠ 4 /\ o ≠ 8 /\ o ≠ 12 := ⟨fun e => he (by rw [e]; rfl), fun e => he (by rw [e]; rfl), fun e => he (by rw [e]; rfl), fun e => he (by rw [e]; rfl)⟩
   have n16 : o ≠ 16 := fun e => he (by rw [e]; rfl)
   have hs : kH o = dD o := by unfold kH; rw [if_neg n16]
   rw [hs, Wd.sto_same n0]
   have hc : (if (some (⟨p, 0, none⟩ : Addr)) = none then 10 else dD o) = dD o := by rw [if_neg (by simp)]
   have hn : (dD o == 0) = false := by simpa using he
   have hn2 : (dD o != 0) = true := by simpa using he
   clear n0 n16 hs
   go_enter func287, ntmps287
   go_wp2_with fail
   refine (fX _ _ _ o0 o1 _ hc).mono ?_
   exact fB
def k8 (d r s : Int) (sec : Int) (al ah : Int) (en st : Bool) : List Value := [.int .u32 d, .int .u32 r, .int .u32 s, .int .u64 sec, .int .u32 al, .int .u32 ah, .bool en, .bool st]
def kl (t : Rk) : List Value := k8 t.div t.rest t.set t.sec t.al t.ah t.en t.st
abbrev tK : TypeId := 37
def cK (w : World) (b : Nat) (t : Rk) : Prop := w.heap[b]? = some (.cells (kl t).toArray tK (0, 0))
section
variable {w w' : World} {b : Nat} {t : Rk}
theorem cK.lt (h : cK w b t) : b < w.heap.size := lt_of_block h
theorem cK.below (h : cK w b t) (hb : Below w.heap.size w w') : cK w' b t := aB hb h h.lt
theorem cK.off {S : Nat -> Prop} (h : cK w b t) (ho : aD S w w') (hs : ¬ S b) : cK w' b t := ho.at h hs
theorem cK.free (h : cK w b t) (j : Nat) : w.frozen? ⟨b, j, none⟩ = false := aH h j
theorem cK.c0 (h : cK w b t) : w.cell? ⟨b, 0, none⟩ = some (.int .u32 t.div) := by rw [aA h 0]; rfl
theorem cK.c1 (h : cK w b t) : w.cell? ⟨b, 1, none⟩ = some (.int .u32 t.rest) := by rw [aA h 1]; rfl
theorem cK.c2 (h : cK w b t) : w.cell? ⟨b, 2, none⟩ = some (.int .u32 t.set) := by rw [aA h 2]; rfl
theorem cK.c3 (h : cK w b t) : w.cell? ⟨b, 3, none⟩ = some (.int .u64 t.sec) := by rw [aA h 3]; rfl
theorem cK.c4 (h : cK w b t) : w.cell? ⟨b, 4, none⟩ = some (.int .u32 t.al) := by rw [aA h 4]; rfl
theorem cK.c5 (h : cK w b t) : w.cell? ⟨b, 5, none⟩ = some (.int .u32 t.ah) := by rw [aA h 5]; rfl
theorem cK.c6 (h : cK w b t) : w.cell? ⟨b, 6, none⟩ = some (.bool t.en) := by rw [aA h 6]; rfl
theorem cK.put (h : cK w b t) (j : Nat) (x : Value) {s : Rk} (he : (kl t).set j x = kl s) : cK (w.setCell ⟨b, j, none⟩ x) b s := by
 unfold cK; rw [aK h, <- he]; simp
theorem cK.s0 (h : cK w b t) (x : Int) : cK (w.setCell ⟨b, 0, none⟩ (.int .u32 x)) b { t with div := x } := h.put _ _ rfl
theorem cK.s1 (h : cK w b t) (x : Int) : cK (w.setCell ⟨b, 1, none⟩ (.int .u32 x)) b { t with rest := x } := h.put _ _ rfl
theorem cK.s2 (h : cK w b t) (x : Int) : cK (w.setCell ⟨b, 2, none⟩ (.int .u32 x)) b { t with set := x } := h.put _ _ rfl
theorem cK.s3 (h : cK w b t) (x : Int) : cK (w.setCell ⟨b, 3, none⟩ (.int .u64 x)) b { t with sec := x } := h.put _ _ rfl
theorem cK.s4 (h : cK w b t) (x : Int) : cK (w.setCell ⟨b, 4, none⟩ (.int .u32 x)) b { t with al := x } := h.put _ _ rfl
theorem cK.s5 (h : cK w b t) (x : Int) : cK (w.setCell ⟨b, 5, none⟩ (.int .u32 x)) b { t with ah := x } := h.put _ _ rfl
theorem cK.s6 (h : cK w b t) (x : Bool) : cK (w.setCell ⟨b, 6, none⟩ (.bool x)) b { t with en := x } := h.put _ _ rfl
theorem cK.other (h : cK w b t) (k j : Nat) (x : Value) (hne : b ≠ k) : cK (w.setCell ⟨k, j, none⟩ x) b t := aN h k j x hne
theorem cK.row {old : Array Value} (h : w.heap[b]? = some (.cells old tK (0, 0))) (t : Rk) : cK (w.setRow b (kl t).toArray) b t := dJ _ h
theorem cK.elseRow (h : cK w b t) (g : Nat) (cs : Array Value) (hne : b ≠ g) : cK (w.setRow g cs) b t := dR g cs h hne
theorem cK.grown (h : cK w b t) : ∀ w', (∃ p : Regrown, w' = grow (redrawn w p.d) p.os) -> cK w' b t := cH h
end
section
variable {ops : Array Oper} {rest : List Oper} {o : Oper} {a : Act} {w : World} {Q : Exit -> Act -> World -> Prop}
end
def zG : Rk := ⟨0, 0, 0, 0, 0, 0, false, false⟩
end Go.Proofs.YtaohacadochldaaGreat.B
