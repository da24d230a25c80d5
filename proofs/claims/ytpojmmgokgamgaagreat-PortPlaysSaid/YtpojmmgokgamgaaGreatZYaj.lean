/- A part of the proof of a law of layer 12: aj. -/
import Derived.Test.YtpojmmgokgamgaaGreatZYag
set_option linter.unusedVariables false
set_option linter.unusedSimpArgs false
set_option maxHeartbeats 12800000
set_option maxRecDepth 100000
namespace Go.Proofs.YtpojmmgokgamgaaGreat.B
open Go.Proofs.Tryz
open Go.ChangeShapes Go.WideShapes Go.RowKit Go.Sort
def dl (t : Wd) : List Value := [.bool t.en, .bool t.lk, .int .i64 t.fa, .int .u32 t.cl, .int .u32 t.tot, .int .u64 t.si, .bool t.ar]
abbrev tD : TypeId := 180
def dT (w : World) (b : Nat) (t : Wd) : Prop := w.heap[b]? = some (.cells (dl t).toArray tD (0, 0))
section
variable {w w' : World} {b : Nat} {t : Wd}
theorem dT.lt (h : dT w b t) : b < w.heap.size := lt_of_block h
theorem dT.below (h : dT w b t) (hb : Below w.heap.size w w') : dT w' b t := aC hb h h.lt
theorem dT.off {S : Nat -> Prop} (h : dT w b t) (ho : aF S w w') (hs : ¬ S b) : dT w' b t := ho.at h hs
theorem dT.free (h : dT w b t) (j : Nat) : w.frozen? ⟨b, j, none⟩ = false := aN h j
theorem dT.c0 (h : dT w b t) : w.cell? ⟨b, 0, none⟩ = some (.bool t.en) := by rw [aA h 0]; rfl
theorem dT.c1 (h : dT w b t) : w.cell? ⟨b, 1, none⟩ = some (.bool t.lk) := by rw [aA h 1]; rfl
theorem dT.c2 (h : dT w b t) : w.cell? ⟨b, 2, none⟩ = some (.int .i64 t.fa) := by rw [aA h 2]; rfl
theorem dT.c3 (h : dT w b t) : w.cell? ⟨b, 3, none⟩ = some (.int .u32 t.cl) := by rw [aA h 3]; rfl
theorem dT.c4 (h : dT w b t) : w.cell? ⟨b, 4, none⟩ = some (.int .u32 t.tot) := by rw [aA h 4]; rfl
theorem dT.c5 (h : dT w b t) : w.cell? ⟨b, 5, none⟩ = some (.int .u64 t.si) := by rw [aA h 5]; rfl
theorem dT.c6 (h : dT w b t) : w.cell? ⟨b, 6, none⟩ = some (.bool t.ar) := by rw [aA h 6]; rfl
theorem dT.set (h : dT w b t) (j : Nat) (x : Value) {s : Wd} (he : (dl t).set j x = dl s) : dT (w.setCell ⟨b, j, none⟩ x) b s := by
 unfold dT; rw [aS h, <- he]; simp
theorem dT.s0 (h : dT w b t) (x : Bool) : dT (w.setCell ⟨b, 0, none⟩ (.bool x)) b { t with en := x } := h.set _ _ rfl
theorem dT.s1 (h : dT w b t) (x : Bool) : dT (w.setCell ⟨b, 1, none⟩ (.bool x)) b { t with lk := x } := h.set _ _ rfl
theorem dT.s2 (h : dT w b t) (x : Int) : dT (w.setCell ⟨b, 2, none⟩ (.int .i64 x)) b { t with fa := x } := h.set _ _ rfl
theorem dT.s3 (h : dT w b t) (x : Int) : dT (w.setCell ⟨b, 3, none⟩ (.int .u32 x)) b { t with cl := x } := h.set _ _ rfl
theorem dT.s4 (h : dT w b t) (x : Int) : dT (w.setCell ⟨b, 4, none⟩ (.int .u32 x)) b { t with tot := x } := h.set _ _ rfl
theorem dT.s5 (h : dT w b t) (x : Int) : dT (w.setCell ⟨b, 5, none⟩ (.int .u64 x)) b { t with si := x } := h.set _ _ rfl
theorem dT.s6 (h : dT w b t) (x : Bool) : dT (w.setCell ⟨b, 6, none⟩ (.bool x)) b { t with ar := x } := h.set _ _ rfl
end
theorem aPK (w : World) : Calls prog 49 #[] w fun e w' => e = .returned (.pointer (some ⟨w.heap.size, 0, none⟩)) /\ w' = w.alloc (.cells (dl wz).toArray tD (0, 0)) := by
 go_enter func49, ntmps49
 exact aR
theorem aBs (t : Wd) (p : Nat) (w : World) (a : dT w p t) : Calls prog 113 #[.pointer (some ⟨p, 0, none⟩)] w fun e w' => e = .returned (.int .i64 t.fa) /\ w = w' := by
 have x := a.c2
 go_enter func113, ntmps113
 exact aR
theorem aK1 (t : Wd) (p : Nat) (w : World) (a : dT w p t) : Calls prog 151 #[.pointer (some ⟨p, 0, none⟩)] w fun e w' => e = .returned (.int .u64 t.si) /\ w = w' := by
 have x := a.c5
 go_enter func151, ntmps151
 exact aR
theorem mQ {P : Prop} (h : P := by
 go_wp2_with fail
 go_ret
 exact ⟨bX (by simp), rfl⟩
 ) : P := h
theorem aAK (t : Wd) (p : Nat) (w : World) (a : dT w p t) : Calls prog 148 #[.pointer (some ⟨p, 0, none⟩)] w fun e w' => e = .returned (.bool t.en) /\ w = w' := by
 have x := a.c0
 go_enter func148, ntmps148
 exact mQ
theorem aHm (t : Wd) (p : Nat) (w : World) (a : dT w p t) : Calls prog 149 #[.pointer (some ⟨p, 0, none⟩)] w fun e w' => e = .returned (.bool t.lk) /\ w = w' := by
 have x := a.c1
 go_enter func149, ntmps149
 exact mQ
theorem aMQ (t : Wd) (p : Nat) (w : World) (a : dT w p t) : Calls prog 150 #[.pointer (some ⟨p, 0, none⟩)] w fun e w' => e = .returned (.bool t.ar) /\ w = w' := by
 have x := a.c6
 go_enter func150, ntmps150
 exact mQ
def oS (t : Wd) : Obj := .cells #[.bool t.en, .bool t.lk, .int .i64 t.fa] 178 (0, 0)
theorem aJa (t : Wd) (w : World) : Calls prog 200 #[.agg #[.bool t.en, .bool t.lk, .int .i64 t.fa]] w fun e w' => e = .returned (.bool (decide (t.en = true /\ t.fa = 0))) /\ Below w.heap.size w w' := by
 have hb := aE (aI w) (oS t)
 by_cases hf : t.fa = 0
 . have q : (t.fa == 0) = true := by simpa using hf
   obtain ⟨en, hen⟩ : ∃ b, t.en = b := ⟨_, rfl⟩
   rw [hen]
   cases en
   all_goals
    rw [hf]
    have hb := aE (aI w) (.cells #[.bool t.en, .bool t.lk, .int .i64 t.fa] 178 (0, 0))
    rw [hf, hen] at hb
    go_enter func200, ntmps200
    go_wp2_with fail
    go_ret
    exact ⟨bX (by simp), hb⟩
 . have q : (t.fa == 0) = false := by simpa using hf
   have hd : decide (t.en = true /\ t.fa = 0) = false := by simp [hf]
   rw [hd]
   clear hf hd
   obtain ⟨en, hen⟩ : ∃ b, t.en = b := ⟨_, rfl⟩
   unfold oS at hb
   rw [hen] at hb ⊢
   cases en
   all_goals
    go_enter func200, ntmps200
    go_wp2_with fail
    go_ret
    exact ⟨rfl, hb⟩
theorem aOR (t : Wd) (w : World) : Calls prog 277 #[.agg #[.bool t.en, .bool t.lk, .int .i64 t.fa]] w fun e w' => e = .returned (.bool (decide (t.en = false /\ t.lk = false /\ t.fa = 0))) /\ Below w.heap.size w w' := by
 have hb := aE (aI w) (oS t)
 have hd : decide (t.en = false /\ t.lk = false /\ t.fa = 0) = ((t.en == false) && ((t.lk == false) && (t.fa == 0))) := by cases t.en <;> cases t.lk <;> first | (simp; done) | (simp; rfl)
 rw [hd]
 unfold oS at hb
 clear hd
 cases q : (t.fa == 0)
 all_goals
  obtain ⟨en, hen⟩ : ∃ b, t.en = b := ⟨_, rfl⟩
  obtain ⟨lk, hlk⟩ : ∃ b, t.lk = b := ⟨_, rfl⟩
  rw [hen, hlk] at hb ⊢
  cases en <;> cases lk
  all_goals
   go_enter func277, ntmps277
   go_wp2_with fail
   go_ret
   exact ⟨rfl, hb⟩
theorem aMT : put 0 0 1 1 = 1 := by decide +kernel
theorem aIF : put 0 1 1 1 = 2 := by decide +kernel
theorem aHj : put 1 1 1 1 = 3 := by decide +kernel
theorem aGU (t : Wd) (w : World) : Calls prog 199 #[.agg #[.bool t.en, .bool t.lk, .int .i64 t.fa]] w fun e w' => e = .returned (.int .u32 (tk t.en + 2 * tk t.lk)) /\ Below w.heap.size w w' := by
 have hb := aE (aI w) (oS t)
 unfold oS at hb
 obtain ⟨en, hen⟩ : ∃ b, t.en = b := ⟨_, rfl⟩
 obtain ⟨lk, hlk⟩ : ∃ b, t.lk = b := ⟨_, rfl⟩
 have P1 := Hd (fun w => by have := Put 0 0 1 1 w (by omega) (by omega) (by omega) (by omega) (by omega) (by omega); rw [aMT] at this; exact this)
 have P2 := Hd (fun w => by have := Put 0 1 1 1 w (by omega) (by omega) (by omega) (by omega) (by omega) (by omega); rw [aIF] at this; exact this)
 have P3 := Hd (fun w => by have := Put 1 1 1 1 w (by omega) (by omega) (by omega) (by omega) (by omega) (by omega); rw [aHj] at this; exact this)
 rw [hen, hlk] at hb ⊢
 cases en <;> cases lk
 . go_enter func199, ntmps199
   exact bO
 . go_enter func199, ntmps199
   go_wp2_with fail
   refine (P2.out _).mono ?_
   rintro e w' ⟨rfl, rfl⟩
   exact bO
 . go_enter func199, ntmps199
   go_wp2_with fail
   refine (P1.out _).mono ?_
   rintro e w' ⟨rfl, rfl⟩
   exact bO
 . go_enter func199, ntmps199
   go_wp2_with fail
   refine (P1.out _).mono ?_
   rintro e w' ⟨rfl, rfl⟩
   go_wp2_with fail
   refine (P3.out _).mono ?_
   rintro e w' ⟨rfl, rfl⟩
   exact bO
theorem mY {P : Prop} (h : P := by
 refine wp_region_quiet_below (by kernel_rfl) (by kernel_rfl) ?_
 repeat (go_big_quiet_step (fail))
 refine wpQuiet_nil ?_
 intro _ hw'
 obtain ⟨⟨dq, osq⟩, hw''⟩ := hw'
 subst hw''
 go_wp2_with fail
 go_ret
 exact ⟨rfl, trG hb _ _⟩
 ) : P := h
theorem aNt (t : Wd) (p : Nat) (w : World) (h : t.ok) (a : dT w p t) : Calls prog 152 #[.pointer (some ⟨p, 0, none⟩)] w fun e w' => e = .returned (.int .u64 t.left) /\ Below w.heap.size w w' := by
 have x0 := a.c0
 have x1 := a.c1
 have x2 := a.c2
 have hr := aJa t w
 unfold Wd.left
 by_cases hc : t.en = true /\ t.fa = 0
 . rw [if_pos hc]
   rw [decide_eq_true hc] at hr
   have hrun := h.run hc.1 hc.2
   have s0 := h.s0
   have t1 := h.t1
   have hr := Hd hr
   clear hc h
   go_enter func152, ntmps152
   go_wp2_with fail
   refine (hr.out).mono ?_
   rintro e w1 ⟨rfl, hb⟩
   have a1 := a.below hb
   clear hr x0 x1 x2 a
   have x4 := a1.c4
   have x5 := a1.c5
   go_wp2_with fail
   have hg := bI
   have hl := a1.lt
   exact mY
 . rw [if_neg hc]
   rw [decide_eq_false hc] at hr
   have hr := Hd hr
   clear hc h
   go_enter func152, ntmps152
   go_wp2_with fail
   refine (hr.out).mono ?_
   rintro e w1 ⟨rfl, hb⟩
   exact bO
theorem aAn {o : Int} (h : (o % 4 != 0) = true) : eG o = 11 := by unfold eG; rw [if_pos (by simpa using h)]
theorem aAX {o : Int} (h : (o % 4 != 0) = false) (k : 20 <= o) : eG o = 10 := by unfold eG; rw [if_neg (by simpa using h), if_neg (by omega)]
theorem aCu {o : Int} (h : (o % 4 != 0) = false) (k : o < 20) : eG o = 0 := by
 unfold eG; have : o % 4 = 0 := by simpa using h
 rw [if_neg (by simpa using h), if_pos (by omega)]
theorem nD {o : Int} (o0 : 0 <= o) (h : eG o = 0) : o = 0 \/ o = 4 \/ o = 8 \/ o = 12 \/ o = 16 := by
 unfold eG at h
 split at h
 . cases h
 . split at h
   . rename_i h1 h2
     have : o % 4 = 0 := by simpa using h1
     omega
   . cases h
theorem nT (x : Option Addr) (o : Int) (w : World) (o0 : 0 <= o) (o1 : o < 4294967296) (e : Int) (he : (if x = none then 10 else eG o) = e) :
 Calls prog 198 #[.pointer x, .int .u32 o] w fun e' w' => e' = .returned (.int .i64 e) /\ w = w' := by
 cases x with
 | none =>
   rw [if_pos rfl] at he; subst he
   go_enter func198, ntmps198
   go_wp2_with fail
   go_ret
   exact ⟨rfl, rfl⟩
 | some x =>
   rw [if_neg (by simp)] at he
   cases h4 : (o % 4 != 0)
   . by_cases h8 : 20 <= o
     . rw [aAX h4 h8] at he; subst he
       go_enter func198, ntmps198
       go_wp2_with fail
       go_ret
       exact ⟨rfl, rfl⟩
     . rw [aCu h4 (by omega)] at he; subst he
       go_enter func198, ntmps198
       go_wp2_with fail
       go_ret
       exact ⟨rfl, rfl⟩
   . rw [aAn h4] at he; subst he
     go_enter func198, ntmps198
     go_wp2_with fail
     go_ret
     exact ⟨rfl, rfl⟩
theorem aAs {a : Int} (h0 : 0 <= a) (h1 : a < 4294967296) : lo a = a := by unfold lo; omega
theorem Wd.val_none {t : Wd} {o : Int} (o0 : 0 <= o) (h : eG o ≠ 0) : t.val o = 0 := by
 unfold Wd.val
 rw [if_neg (fun e => h (by rw [e]; rfl)), if_neg (fun e => h (by rw [e]; rfl)), if_neg (fun e => h (by rw [e]; rfl)), if_neg (fun e => h (by rw [e]; rfl))]
theorem qD {P : Prop} (h : P := by
 rintro e w1 ⟨rfl, hb⟩
 go_wp2_with fail
 go_ret2
 exact ⟨rfl, hb⟩
 ) : P := h
theorem aJz (t : Wd) (o : Int) (p : Nat) (w : World) (h : t.ok) (a : dT w p t) (o0 : 0 <= o) (o1 : o < 4294967296) :
 Calls prog 147 #[.pointer (some ⟨p, 0, none⟩), .int .u32 o] w fun e w' => e = .returned (.tuple #[.int .u32 (t.val o), .int .i64 (eG o)]) /\ Below w.heap.size w w' := by
 have x0 := a.c0
 have x1 := a.c1
 have x2 := a.c2
 have x3 := a.c3
 have x4 := a.c4
 have x5 := a.c5
 have s0 := h.s0
 have s1 : t.si < 4294967296 := by have := h.s1; have := h.t1; omega
 have hL := Hd (fun w => by have := Lo t.si w s0 (by omega); rw [aAs s0 s1] at this; exact this)
 have hC := Hd (fun w => aGU t w)
 clear a h
 by_cases he : eG o = 0
 . rcases nD o0 he with rfl | rfl | rfl | rfl | rfl
   . go_enter func147, ntmps147
     go_wp2_with (go_at_call 198; refine (nT _ _ _ (by omega) (by omega) 0 (by rfl)).mono ?_; rintro e w' ⟨rfl, rfl⟩)
     refine (hC.out _).mono ?_
     exact qD
   all_goals
    go_enter func147, ntmps147
    go_wp2_with (first | (go_at_call 198; refine (nT _ _ _ (by omega) (by omega) 0 (by rfl)).mono ?_; rintro e w' ⟨rfl, rfl⟩) | (go_at_call 180; refine (hL.out _).mono ?_; rintro e w' ⟨rfl, rfl⟩))
    go_ret2
    exact ⟨rfl, aI w⟩
 . rw [Wd.val_none o0 he]
   have hc : (if (some (⟨p, 0, none⟩ : Addr)) = none then 10 else eG o) = eG o := by rw [if_neg (by simp)]
   have hn : (eG o == 0) = false := by simpa using he
   have hn2 : (eG o != 0) = true := by simpa using he
   go_enter func147, ntmps147
   go_wp2_with fail
   refine (nT _ _ _ o0 o1 _ hc).mono ?_
   rintro e w' ⟨rfl, rfl⟩
   go_wp2_with fail
   go_ret2
   exact ⟨rfl, aI w⟩
theorem oP (w : World) (p : Nat) (cs : Array Value) : aF (· = p) w (w.setRow p cs) := ⟨rfl, rfl, rfl, by simp, fun k _ hs => setRow_other w p k cs hs⟩
theorem aDW {t : Wd} {v : Int} (hen : t.en = true) (h : v = 23130) : t.key v = { t with ar := true } := by unfold Wd.key; rw [if_neg (by rw [hen]; simp), if_pos h]
theorem vT {t : Wd} {v : Int} (hen : t.en = true) (h : v = 42405) (ha : t.ar = true) (hs : t.si < t.cl) : t.key v = { t with fa := 4 } := by
 unfold Wd.key; rw [if_neg (by rw [hen]; simp), if_neg (by omega), if_pos ⟨h, ha⟩, if_pos hs]
theorem aAW {t : Wd} {v : Int} (hen : t.en = true) (h : v = 42405) (ha : t.ar = true) (hs : ¬ t.si < t.cl) : t.key v = { t with si := 0, ar := false } := by
 unfold Wd.key; rw [if_neg (by rw [hen]; simp), if_neg (by omega), if_pos ⟨h, ha⟩, if_neg hs]
theorem mU {t : Wd} {v : Int} (hen : t.en = true) (h : v ≠ 23130) (ha : ¬ (v = 42405 /\ t.ar = true)) (hs : t.si < t.cl) : t.key v = { t with fa := 8 } := by
 unfold Wd.key; rw [if_neg (by rw [hen]; simp), if_neg h, if_neg ha, if_pos hs]
theorem zH {t : Wd} {v : Int} (hen : t.en = true) (h : v ≠ 23130) (ha : ¬ (v = 42405 /\ t.ar = true)) (hs : ¬ t.si < t.cl) : t.key v = { t with ar := false } := by
 unfold Wd.key; rw [if_neg (by rw [hen]; simp), if_neg h, if_neg ha, if_neg hs]
theorem aM1 (t : Wd) (v : Int) (p : Nat) (w : World) (h : t.ok) (a : dT w p t) (hen : t.en = true) (v0 : 0 <= v) (v1 : v < 4294967296) :
 Calls prog 278 #[.pointer (some ⟨p, 0, none⟩), .int .u32 v] w fun e w' => e = .returned (.tuple #[]) /\ dT w' p (t.key v) /\ aF (· = p) w w' := by
 obtain ⟨R, hR⟩ : ∃ R, t.key v = R := ⟨_, rfl⟩
 rw [hR]
 have HR := Hd hR
 clear hR
 have x3 := a.c3
 have x5 := a.c5
 have c0 := h.c0
 have c1 := h.c1
 have s0 := h.s0
 have hl := a.lt
 clear h
 go_enter func278, ntmps278
 go_wp2_with fail
 have hg := bI
 refine wp_region_quiet_below (by kernel_rfl) (by kernel_rfl) ?_
 repeat (go_big_quiet_step (fail))
 refine wpQuiet_nil ?_
 intro _ hw'
 obtain ⟨⟨dq, osq⟩, hw''⟩ := hw'
 subst hw''
 have hbr := below_regrown w dq osq
 have ho := aF.ofBelow (S := (· = p)) hbr
 have A := a.below hbr
 clear a hbr hg x3 x5 hl c0 c1 s0
 dsimp only at A ho ⊢
 generalize grow (redrawn w dq) osq = W at *
 obtain ⟨sh, hsh⟩ : ∃ b, decide (t.si < t.cl) = b := ⟨_, rfl⟩
 simp only [hsh]
 have x2 := A.c2
 have x5 := A.c5
 have x6 := A.c6
 have f2 := A.free 2
 have f5 := A.free 5
 have f6 := A.free 6
 by_cases h1 : v = 23130
 . subst h1
   go_wp2_with fail
   go_end0
   exact ⟨rfl, by rw [<- HR.out, aDW hen rfl]; exact A.s6 true, ho.trans (aG _ _ _ _)⟩
 . have q1 : (v == 23130) = false := by simpa using h1
   by_cases h2 : v = 42405
   . subst h2
     obtain ⟨ar, har⟩ : ∃ b, t.ar = b := ⟨_, rfl⟩
     rw [har] at x6
     cases ar <;> cases sh
     . go_wp2_with fail
       go_end0
       exact ⟨rfl, by rw [<- HR.out, zH hen (by omega) (by rw [har]; simp) (by simpa using hsh)]; exact A.s6 false, ho.trans (aG _ _ _ _)⟩
     . go_wp2_with fail
       go_end0
       exact ⟨rfl, by rw [<- HR.out, mU hen (by omega) (by rw [har]; simp) (by simpa using hsh)]; exact A.s2 8, ho.trans (aG _ _ _ _)⟩
     . go_wp2_with fail
       go_end0
       exact ⟨rfl, by rw [<- HR.out, aAW hen rfl har (by simpa using hsh)]; exact (A.s5 0).s6 false, (ho.trans (aG _ _ _ _)).trans (aG _ _ _ _)⟩
     . go_wp2_with fail
       go_end0
       exact ⟨rfl, by rw [<- HR.out, vT hen rfl har (by simpa using hsh)]; exact A.s2 4, ho.trans (aG _ _ _ _)⟩
   . have q2 : (v == 42405) = false := by simpa using h2
     cases sh
     . go_wp2_with fail
       go_end0
       exact ⟨rfl, by rw [<- HR.out, zH hen h1 (fun e => h2 e.1) (by simpa using hsh)]; exact A.s6 false, ho.trans (aG _ _ _ _)⟩
     . go_wp2_with fail
       go_end0
       exact ⟨rfl, by rw [<- HR.out, mU hen h1 (fun e => h2 e.1) (by simpa using hsh)]; exact A.s2 8, ho.trans (aG _ _ _ _)⟩
theorem aE0 (v : Int) (v0 : 0 <= v) : field v 0 1 = v % 2 := by
 unfold field
 rw [if_pos (by decide), show (0 : Int).toNat = 0 from rfl, show (2 : Nat) ^ min (1 : Int).toNat 32 = 2 by decide, Nat.pow_zero, Nat.div_one]; omega
theorem aG8 (v : Int) (v0 : 0 <= v) : field v 1 1 = v / 2 % 2 := by
 unfold field
 rw [if_pos (by decide), show (2 : Nat) ^ (1 : Int).toNat = 2 by decide, show (2 : Nat) ^ min (1 : Int).toNat 32 = 2 by decide]; omega
theorem aFb {t : Wd} {v : Int} (hl : t.lk = false) (he : t.en = false) (hv : v % 2 = 1) (hc : t.cl < t.tot) : t.ctlPut v = { t with en := true, si := 0, ar := false, lk := (v / 2 % 2 == 1) } := by
 unfold Wd.ctlPut Wd.ctlTo; rw [if_neg (by rw [hl]; simp), if_pos ⟨he, hv, hc⟩]
theorem aDM {t : Wd} {v : Int} (hl : t.lk = false) (he : t.en = true) (hv : v % 2 = 0) : t.ctlPut v = { t with en := false, si := 0, ar := false, lk := (v / 2 % 2 == 1) } := by
 unfold Wd.ctlPut Wd.ctlTo; rw [if_neg (by rw [hl]; simp), if_neg (by rw [he]; simp), if_pos ⟨he, hv⟩]
theorem kK {t : Wd} {v : Int} (hl : t.lk = false) (h1 : ¬ (t.en = false /\ v % 2 = 1 /\ t.cl < t.tot)) (h2 : ¬ (t.en = true /\ v % 2 = 0)) : t.ctlPut v = { t with lk := (v / 2 % 2 == 1) } := by
 unfold Wd.ctlPut Wd.ctlTo; rw [if_neg (by rw [hl]; simp), if_neg h1, if_neg h2]
theorem vX {P : Prop} (h : P := by
 go_wp2_with fail
 refine (F1.out _).mono ?_
 rintro e1 w2 ⟨rfl, k2, rfl⟩
 have A2 := A1.below (tQ (aI W1) k2)
 have ho2 := ho1.trans (aF.ofBelow (S := (· = p)) (tQ (aI W1) k2))
 clear A1 ho1 x0 x1 x5 x6 f0 f5 f6
 generalize W1.drewN k2 = W2 at *
 have x1 := A2.c1
 have f1 := A2.free 1
 go_wp2_with fail
 go_end0
 exact ⟨rfl, by rw [<- HR.out, kK hlk (fun h => by rw [hen] at h; simp at h) (fun h => by simp at hev; omega), hlv]; exact A2.s1 l, ho2.trans (aG _ _ _ _)⟩
 ) : P := h
theorem aMZ (t : Wd) (v : Int) (p : Nat) (w : World) (h : t.ok) (a : dT w p t) (hlk : t.lk = false) (v0 : 0 <= v) (v1 : v < 4294967296) :
 Calls prog 276 #[.pointer (some ⟨p, 0, none⟩), .int .u32 v] w fun e w' => e = .returned (.tuple #[]) /\ dT w' p (t.ctlPut v) /\ aF (· = p) w w' := by
 obtain ⟨R, hR⟩ : ∃ R, t.ctlPut v = R := ⟨_, rfl⟩
 rw [hR]
 have HR := Hd hR
 clear hR
 have F0 := Hd (fun w => by have := Field v 0 1 w v0 v1 (by omega) (by omega); rw [aE0 v v0] at this; exact this)
 have F1 := Hd (fun w => by have := Field v 1 1 w v0 v1 (by omega) (by omega); rw [aG8 v v0] at this; exact this)
 obtain ⟨l, hlv⟩ : ∃ b, (v / 2 % 2 == 1) = b := ⟨_, rfl⟩
 obtain ⟨e, hev⟩ : ∃ b, (v % 2 == 1) = b := ⟨_, rfl⟩
 obtain ⟨lt, hlt⟩ : ∃ b, decide (t.cl < t.tot) = b := ⟨_, rfl⟩
 obtain ⟨en, hen⟩ : ∃ b, t.en = b := ⟨_, rfl⟩
 go_enter func276, ntmps276
 go_wp2_with fail
 refine (F0.out _).mono ?_
 rintro e0 w1 ⟨rfl, k, rfl⟩
 have hb := tQ (aI w) k
 have ho := aF.ofBelow (S := (· = p)) hb
 have A := a.below hb
 clear a hb
 generalize w.drewN k = W0 at *
 have hl := A.lt
 have x3 := A.c3
 have x4 := A.c4
 have hg := bI
 cases e
 . go_wp2_with fail
   refine wp_region_quiet_below (by kernel_rfl) (by kernel_rfl) ?_
   repeat (go_big_quiet_step (fail))
   refine wpQuiet_nil ?_
   intro _ hw'
   obtain ⟨⟨dq, osq⟩, hw''⟩ := hw'
   subst hw''
   have hbr := below_regrown W0 dq osq
   have ho1 := ho.trans (aF.ofBelow (S := (· = p)) hbr)
   have A1 := A.below hbr
   clear A ho hbr hg hl x3 x4
   dsimp only at A1 ho1 ⊢
   generalize grow (redrawn W0 dq) osq = W1 at *
   have x0 := A1.c0
   have x1 := A1.c1
   have x5 := A1.c5
   have x6 := A1.c6
   have f0 := A1.free 0
   have f5 := A1.free 5
   have f6 := A1.free 6
   rw [hen] at x0
   cases en
   . go_wp2_with fail
     refine (F1.out _).mono ?_
     rintro e1 w2 ⟨rfl, k2, rfl⟩
     have A2 := A1.below (tQ (aI W1) k2)
     have ho2 := ho1.trans (aF.ofBelow (S := (· = p)) (tQ (aI W1) k2))
     clear A1 ho1 x0 x1 x5 x6 f0 f5 f6
     generalize W1.drewN k2 = W2 at *
     have x1 := A2.c1
     have f1 := A2.free 1
     go_wp2_with fail
     go_end0
     exact ⟨rfl, by rw [<- HR.out, kK hlk (fun h => by simp at hev; omega) (fun h => by rw [hen] at h; simp at h), hlv]; exact A2.s1 l, ho2.trans (aG _ _ _ _)⟩
   . have A3 : dT (((W1.setCell ⟨p, 0, none⟩ (.bool false)).setCell ⟨p, 5, none⟩ (.int .u64 0)).setCell ⟨p, 6, none⟩ (.bool false)) p { t with en := false, si := 0, ar := false } := ((A1.s0 false).s5 0).s6 false
     have ho3 := ((ho1.trans (aG W1 p 0 (.bool false))).trans (aG _ p 5 (.int .u64 0))).trans (aG _ p 6 (.bool false))
     go_wp2_with fail
     refine (F1.out _).mono ?_
     rintro e1 w2 ⟨rfl, k2, rfl⟩
     clear A1 ho1 x0 x1 x5 x6 f0 f5 f6
     generalize (((W1.setCell ⟨p, 0, none⟩ (.bool false)).setCell ⟨p, 5, none⟩ (.int .u64 0)).setCell ⟨p, 6, none⟩ (.bool false)) = W4 at *
     have A2 := A3.below (tQ (aI W4) k2)
     have ho2 := ho3.trans (aF.ofBelow (S := (· = p)) (tQ (aI W4) k2))
     clear A3 ho3
     generalize W4.drewN k2 = W2 at *
     have x1 := A2.c1
     have f1 := A2.free 1
     go_wp2_with fail
     go_end0
     exact ⟨rfl, by rw [<- HR.out, aDM hlk hen (by simp at hev; omega), hlv]; exact A2.s1 l, ho2.trans (aG _ _ _ _)⟩
 . cases lt
   all_goals
    go_wp2_with fail
    refine wp_region_quiet_below (by kernel_rfl) (by kernel_rfl) ?_
    repeat (go_big_quiet_step (fail))
    refine wpQuiet_nil ?_
    intro _ hw'
    obtain ⟨⟨dq, osq⟩, hw''⟩ := hw'
    subst hw''
    have hbr := below_regrown W0 dq osq
    have ho1 := ho.trans (aF.ofBelow (S := (· = p)) hbr)
    have A1 := A.below hbr
    clear A ho hbr hg hl x3 x4
    dsimp only at A1 ho1 ⊢
    generalize grow (redrawn W0 dq) osq = W1 at *
    have x0 := A1.c0
    have x1 := A1.c1
    have x5 := A1.c5
    have x6 := A1.c6
    have f0 := A1.free 0
    have f5 := A1.free 5
    have f6 := A1.free 6
    rw [hen] at x0
    cases en
   . go_wp2_with fail
     refine (F1.out _).mono ?_
     rintro e1 w2 ⟨rfl, k2, rfl⟩
     have A2 := A1.below (tQ (aI W1) k2)
     have ho2 := ho1.trans (aF.ofBelow (S := (· = p)) (tQ (aI W1) k2))
     clear A1 ho1 x0 x1 x5 x6 f0 f5 f6
     generalize W1.drewN k2 = W2 at *
     have x1 := A2.c1
     have f1 := A2.free 1
     go_wp2_with fail
     go_end0
     exact ⟨rfl, by rw [<- HR.out, kK hlk (fun h => by simp at hlt; omega) (fun h => by rw [hen] at h; simp at h), hlv]; exact A2.s1 l, ho2.trans (aG _ _ _ _)⟩
   . exact vX
   . have A3 : dT (((W1.setCell ⟨p, 0, none⟩ (.bool true)).setCell ⟨p, 5, none⟩ (.int .u64 0)).setCell ⟨p, 6, none⟩ (.bool false)) p { t with en := true, si := 0, ar := false } := ((A1.s0 true).s5 0).s6 false
     have ho3 := ((ho1.trans (aG W1 p 0 (.bool true))).trans (aG _ p 5 (.int .u64 0))).trans (aG _ p 6 (.bool false))
     go_wp2_with fail
     refine (F1.out _).mono ?_
     rintro e1 w2 ⟨rfl, k2, rfl⟩
     clear A1 ho1 x0 x1 x5 x6 f0 f5 f6
     generalize (((W1.setCell ⟨p, 0, none⟩ (.bool true)).setCell ⟨p, 5, none⟩ (.int .u64 0)).setCell ⟨p, 6, none⟩ (.bool false)) = W4 at *
     have A2 := A3.below (tQ (aI W4) k2)
     have ho2 := ho3.trans (aF.ofBelow (S := (· = p)) (tQ (aI W4) k2))
     clear A3 ho3
     generalize W4.drewN k2 = W2 at *
     have x1 := A2.c1
     have f1 := A2.free 1
     go_wp2_with fail
     go_end0
     exact ⟨rfl, by rw [<- HR.out, aFb hlk hen (by simpa using hev) (by simpa using hlt), hlv]; exact A2.s1 l, ho2.trans (aG _ _ _ _)⟩
   . exact vX
theorem aIm (t : Wd) (h : t.fa = 0) : decide (t.en = false /\ t.lk = false /\ t.fa = 0) = (!(t.lk || t.en)) := by cases t.en <;> cases t.lk <;> simp [h]
theorem pS {P : Prop} (h : P := by
 rintro e w1 ⟨rfl, A, ho⟩
 go_wp2_with fail
 go_end0
 exact ⟨rfl, A, ho⟩
 ) : P := h
theorem wZ {P : Prop} (h : P := by
 go_enter func275, ntmps275
 go_wp2_with fail
 go_end0
 exact ⟨rfl, a, aF.refl _ _⟩
 ) : P := h
theorem aKd (t : Wd) (o v : Int) (p : Nat) (w : World) (h : t.ok) (a : dT w p t) (hf : t.fa = 0) (ho : o = 0 \/ o = 4 \/ o = 8 \/ o = 12) (v0 : 0 <= v) (v1 : v < 4294967296) :
 Calls prog 275 #[.pointer (some ⟨p, 0, none⟩), .int .u32 o, .int .u32 v] w fun e w' => e = .returned (.tuple #[]) /\ dT w' p (t.sto o v) /\ aF (· = p) w w' := by
 have x0 := a.c0
 have x1 := a.c1
 have x2 := a.c2
 have x3 := a.c3
 have x4 := a.c4
 have f3 := a.free 3
 have f4 := a.free 4
 have hfr := aOR t w
 rw [aIm t hf] at hfr
 have hfr := Hd hfr
 rcases ho with rfl | rfl | rfl | rfl
 . have hs : t.sto 0 v = t.ctlPut v := by unfold Wd.sto; rw [if_neg (by simp [hf]), if_pos rfl]
   rw [hs]
   have hlk0 : t.lk = true -> t.ctlPut v = t := fun e => by unfold Wd.ctlPut; rw [if_pos e]
   obtain ⟨lk, hlk⟩ : ∃ b, t.lk = b := ⟨_, rfl⟩
   rw [hlk] at x1
   cases lk
   . go_enter func275, ntmps275
     go_wp2_with fail
     refine (aMZ t v p w h a hlk v0 v1).mono ?_
     exact pS
   . rw [hlk0 hlk]
     clear hlk0
     exact wZ
 . have hs : t.sto 4 v = (if (t.lk || t.en) = true then t else { t with cl := v }) := by unfold Wd.sto; rw [if_neg (by simp [hf]), if_neg (by decide), if_pos rfl]; simp only [Bool.or_eq_true]
   rw [hs]
   clear hs hf
   cases hq : (t.lk || t.en)
   all_goals
    rw [hq] at hfr
    go_enter func275, ntmps275
    go_wp2_with fail
    refine (hfr.out).mono ?_
    rintro e w1 ⟨rfl, hb⟩
    have A := a.below hb
    have ho := aF.ofBelow (S := (· = p)) hb
    clear a hb hfr x0 x1 x2 x3 x4 f3 f4
    have x3 := A.c3
    have f3 := A.free 3
    go_wp2_with fail
    go_end0
   . exact ⟨rfl, A.s3 v, ho.trans (aG _ _ _ _)⟩
   . exact ⟨rfl, A, ho⟩
 . have hs : t.sto 8 v = (if (t.lk || t.en) = true then t else { t with tot := v }) := by unfold Wd.sto; rw [if_neg (by simp [hf]), if_neg (by decide), if_neg (by decide), if_pos rfl]; simp only [Bool.or_eq_true]
   rw [hs]
   clear hs hf
   cases hq : (t.lk || t.en)
   all_goals
    rw [hq] at hfr
    go_enter func275, ntmps275
    go_wp2_with fail
    refine (hfr.out).mono ?_
    rintro e w1 ⟨rfl, hb⟩
    have A := a.below hb
    have ho := aF.ofBelow (S := (· = p)) hb
    clear a hb hfr x0 x1 x2 x3 x4 f3 f4
    have x4 := A.c4
    have f4 := A.free 4
    go_wp2_with fail
    go_end0
   . exact ⟨rfl, A.s4 v, ho.trans (aG _ _ _ _)⟩
   . exact ⟨rfl, A, ho⟩
 . have hs : t.sto 12 v = t.key v := by unfold Wd.sto; rw [if_neg (by simp [hf]), if_neg (by decide), if_neg (by decide), if_neg (by decide), if_pos rfl]
   rw [hs]
   have hk0 : t.en = false -> t.key v = t := fun e => by unfold Wd.key; rw [if_pos e]
   obtain ⟨en, hen⟩ : ∃ b, t.en = b := ⟨_, rfl⟩
   rw [hen] at x0
   cases en
   . rw [hk0 hen]
     clear hk0
     exact wZ
   . go_enter func275, ntmps275
     go_wp2_with fail
     refine (aM1 t v p w h a hen v0 v1).mono ?_
     exact pS
theorem Wd.sto_same {t : Wd} {o v : Int} (h : o ≠ 0 /\ o ≠ 4 /\ o ≠ 8 /\ o ≠ 12) : t.sto o v = t := by
 unfold Wd.sto
 split
 . rfl
 . rw [if_neg h.1, if_neg h.2.1, if_neg h.2.2.1, if_neg h.2.2.2]
theorem Wd.sto_fault {t : Wd} {o v : Int} (h : t.fa ≠ 0) : t.sto o v = t := by unfold Wd.sto; rw [if_pos h]
theorem aMP (t : Wd) (o v : Int) (p : Nat) (w : World) (h : t.ok) (a : dT w p t) (o0 : 0 <= o) (o1 : o < 4294967296) (v0 : 0 <= v) (v1 : v < 4294967296) :
 Calls prog 274 #[.pointer (some ⟨p, 0, none⟩), .int .u32 o, .int .u32 v] w fun e w' => e = .returned (.int .i64 (kD o)) /\ dT w' p (t.sto o v) /\ aF (· = p) w w' := by
 have x2 := a.c2
 by_cases he : eG o = 0
 . by_cases h16 : o = 16
   . subst h16
     rw [Wd.sto_same (by omega)]
     go_enter func274, ntmps274
     go_wp2_with (first | (go_at_call 198; refine (nT _ _ _ (by omega) (by omega) 0 (by rfl)).mono ?_; rintro e w' ⟨rfl, rfl⟩))
     go_ret
     exact ⟨rfl, a, aF.refl _ _⟩
   . have hs : kD o = 0 := by unfold kD; rw [if_neg h16, he]
     rw [hs]
     have hc : (if (some (⟨p, 0, none⟩ : Addr)) = none then 10 else eG o) = 0 := by rw [if_neg (by simp), he]
     have h4 : o = 0 \/ o = 4 \/ o = 8 \/ o = 12 := by have := nD o0 he; omega
     have q16 : (o == 16) = false := by simpa using h16
     clear he hs h16
     by_cases hf : t.fa = 0
     . rw [hf] at x2
       go_enter func274, ntmps274
       go_wp2_with (first | (go_at_call 198; refine (nT _ _ _ o0 o1 0 hc).mono ?_; rintro e w' ⟨rfl, rfl⟩))
       refine (aKd t o v p w h a hf h4 v0 v1).mono ?_
       rintro e w1 ⟨rfl, A, ho⟩
       go_wp2_with fail
       go_ret
       exact ⟨rfl, A, ho⟩
     . rw [Wd.sto_fault hf]
       have q : (t.fa == 0) = false := by simpa using hf
       go_enter func274, ntmps274
       go_wp2_with (first | (go_at_call 198; refine (nT _ _ _ o0 o1 0 hc).mono ?_; rintro e w' ⟨rfl, rfl⟩))
       go_ret
       exact ⟨rfl, a, aF.refl _ _⟩
 . have n0 : o ≠ 0 /\ o ≠ 4 /\ o ≠ 8 /\ o ≠ 12 := ⟨fun e => he (by rw [e]; rfl), fun e => he (by rw [e]; rfl), fun e => he (by rw [e]; rfl), fun e => he (by rw [e]; rfl)⟩
   have n16 : o ≠ 16 := fun e => he (by rw [e]; rfl)
   have hs : kD o = eG o := by unfold kD; rw [if_neg n16]
   rw [hs, Wd.sto_same n0]
   have hc : (if (some (⟨p, 0, none⟩ : Addr)) = none then 10 else eG o) = eG o := by rw [if_neg (by simp)]
   have hn : (eG o == 0) = false := by simpa using he
   have hn2 : (eG o != 0) = true := by simpa using he
   clear n0 n16 hs
   go_enter func274, ntmps274
   go_wp2_with fail
   refine (nT _ _ _ o0 o1 _ hc).mono ?_
   exact mX
end Go.Proofs.YtpojmmgokgamgaaGreat.B
