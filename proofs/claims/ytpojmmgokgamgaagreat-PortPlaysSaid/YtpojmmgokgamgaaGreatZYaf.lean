/- A part of the proof of a law of layer 12: af. -/
import Derived.Test.YtpojmmgokgamgaaGreatZYae
set_option linter.unusedVariables false
set_option linter.unusedSimpArgs false
set_option maxHeartbeats 12800000
set_option maxRecDepth 100000
namespace Go.Proofs.YtpojmmgokgamgaaGreat.B
open Go.Proofs.Tryz
open Go.ChangeShapes Go.WideShapes Go.RowKit Go.Sort
def jA (w : World) (b : Nat) (T : TypeId) (t : Tm) : Prop := w.heap[b]? = some (.cells (wl t).toArray T (0, 0))
abbrev tC : TypeId := 255
section
variable {w w' : World} {b : Nat} {T : TypeId} {t : Tm}
theorem jA.a5 (h : jA w b T t) : A5 w b T t.ld t.v (lT t.en t.re t.iq t.sc) (tk t.st) t.ph := h
theorem jA.lt (h : jA w b T t) : b < w.heap.size := lt_of_block h
theorem jA.below (h : jA w b T t) (hb : Below w.heap.size w w') : jA w' b T t := aC hb h h.lt
theorem jA.off {S : Nat -> Prop} (h : jA w b T t) (ho : aF S w w') (hs : ¬ S b) : jA w' b T t := ho.at h hs
theorem jA.other (h : jA w b T t) (k j : Nat) (x : Value) (hne : b ≠ k) : jA (w.setCell ⟨k, j, none⟩ x) b T t := aW h k j x hne
theorem jA.row {old : Array Value} (h : w.heap[b]? = some (.cells old T (0, 0))) (t : Tm) : jA (w.setRow b (wl t).toArray) b T t := aT _ h
theorem jA.elseRow (h : jA w b T t) (g : Nat) (cs : Array Value) (hne : b ≠ g) : jA (w.setRow g cs) b T t := iT g cs h hne
end
theorem rY (w : World) (p : Nat) (cs : Array Value) : aF (· = p) w (w.setRow p cs) := ⟨rfl, rfl, rfl, by simp, fun k _ hs => setRow_other w p k cs hs⟩
section
variable {ops : Array Oper} {rest : List Oper} {o : Oper} {a : Act} {w : World} {Q : Exit -> Act -> World -> Prop}
theorem sU (hgd : o.guard = none) (x : Operand) (ho : o.op = .load 253 x) {b : Nat} {T : TypeId} (hx : a.eval x = .pointer (some ⟨b, 0, none⟩)) {t : Tm} (hg : jA w b T t)
 (h : wpList prog ops Q rest (a.put o.dst (.agg (wl t).toArray)) w) : wpList prog ops Q (o :: rest) a w := lV hgd x ho hx hg.a5 h
theorem aCb (x : Operand) (ho : o.op = .load 253 x) (hw : Region.wanted o (yielded ops a.tmps) = true) {b : Nat} {T : TypeId} (hx : a.eval x = .pointer (some ⟨b, 0, none⟩)) {t : Tm} (hg : jA w b T t)
 (h : wpList prog ops Q rest (a.put o.dst (.agg (wl t).toArray)) w) : wpList prog ops Q (o :: rest) a w := aGm x ho hw hx hg.a5 h
theorem sX (hgd : o.guard = none) (x y : Operand) (ho : o.op = .store 253 x y) {b : Nat} {T : TypeId} (hx : a.eval x = .pointer (some ⟨b, 0, none⟩)) {t : Tm} (hy : a.eval y = .agg (wl t).toArray) {t' : Tm}
 (hg : jA w b T t') (h : wpList prog ops Q rest (a.put o.dst undef) (w.setRow b (wl t).toArray)) : wpList prog ops Q (o :: rest) a w := pW hgd x y ho hx hy hg.a5 h
theorem xS {C : World -> Prop} {K : Act -> Prop} (x : Operand) (ho : o.op = .load 253 x) {b : Nat} {T : TypeId} (hx : a.eval x = .pointer (some ⟨b, 0, none⟩)) {t : Tm} (hg : ∀ w, C w -> jA w b T t)
 (h : K (a.put o.dst (.agg (wl t).toArray))) : o.quiet prog a C K := aHN x ho hx (fun w hw => (hg w hw).a5) h
end
theorem jA.grown {w : World} {b : Nat} {T : TypeId} {t : Tm} (h : jA w b T t) : ∀ w', (∃ p : Regrown, w' = grow (redrawn w p.d) p.os) -> jA w' b T t := cV h
def tz : Tm := ⟨0, 0, false, false, false, 0, 0, false⟩
theorem aC9 : tz.ok := ⟨by decide, by decide, by decide, by decide, by decide, by decide, by decide, by decide⟩
theorem aO4 (w : World) : Calls prog 93 #[] w fun e w' => e = .returned (.pointer (some ⟨w.heap.size, 0, none⟩)) /\ w' = w.alloc (.cells (wl tz).toArray tC (0, 0)) := by
 go_enter func93, ntmps93
 exact aR
theorem aCj (t : Tm) (p : Nat) (w : World) (h : t.ok) (a : jA w p tC t) :
 Calls prog 195 #[.pointer (some ⟨p, 0, none⟩)] w fun e w' => e = .returned (.bool t.en) /\ Below w.heap.size w w' := by
 go_enter func195, ntmps195
 go_wp2_with (refine aCb (.tmp 8) rfl rfl rfl a ?_)
 refine (aKT t w h).mono ?_
 rintro e w1 ⟨rfl, hb⟩
 cases he : t.en
 all_goals
  go_wp2_with fail
  go_ret
  exact ⟨bX he.symm, hb⟩
theorem aJf (t : Tm) (p : Nat) (w : World) (h : t.ok) (a : jA w p tC t) :
 Calls prog 183 #[.pointer (some ⟨p, 0, none⟩)] w fun e w' => e = .returned (.bool (t.st && t.iq)) /\ Below w.heap.size w w' := by
 have x3 := a.a5.c3
 cases hs : t.st
 . rw [hs] at x3
   simp only [tk, cond_false] at x3
   go_enter func183, ntmps183
   go_wp2_with fail
   go_ret
   exact ⟨rfl, aI w⟩
 . rw [hs] at x3
   simp only [tk, cond_true] at x3
   go_enter func183, ntmps183
   go_wp2_with (refine aCb (.tmp 17) rfl rfl rfl a ?_)
   refine (aMJ t w h).mono ?_
   rintro e w1 ⟨rfl, hb⟩
   cases he : t.iq
   all_goals
    go_wp2_with fail
    go_ret
    exact ⟨bX (by rw [he]; rfl), hb⟩
def Tm.lef (t : Tm) : Int := if t.en = true then t.left else 18446744073709551615
theorem bO {P : Prop} (h : P := by
 go_wp2_with fail
 go_ret
 exact ⟨rfl, hb⟩
 ) : P := h
theorem aGW (t : Tm) (p : Nat) (w : World) (h : t.ok) (a : jA w p tC t) :
 Calls prog 194 #[.pointer (some ⟨p, 0, none⟩)] w fun e w' => e = .returned (.int .u64 t.lef) /\ Below w.heap.size w w' := by
 have hr := aCj t p w h a
 unfold Tm.lef
 cases he : t.en
 . rw [he] at hr
   go_enter func194, ntmps194
   go_wp2_with fail
   refine hr.mono ?_
   rintro e w1 ⟨rfl, hb⟩
   exact bO
 . rw [he] at hr
   go_enter func194, ntmps194
   go_wp2_with fail
   refine hr.mono ?_
   rintro e w1 ⟨rfl, hb⟩
   have a1 := a.below hb
   go_wp2_with (refine sU rfl (.tmp 8) rfl rfl a1 ?_)
   refine (aMD t w1 h).mono ?_
   rintro e w2 ⟨rfl, hb2⟩
   go_wp2_with fail
   go_ret
   exact ⟨rfl, tr hb hb2⟩
def eX (o : Int) : Int := if (o % 4 != 0) = true then 11 else if 16 <= o then 10 else 0
theorem qY {o : Int} (o0 : 0 <= o) (h : eX o = 0) : o = 0 \/ o = 4 \/ o = 8 \/ o = 12 := by
 unfold eX at h
 cases h4 : (o % 4 != 0)
 . rw [h4] at h; simp at h h4; omega
 . rw [h4] at h; simp at h
theorem nW (x : Option Addr) (o : Int) (w : World) (o0 : 0 <= o) (o1 : o < 4294967296) (e : Int) (he : (if x = none then 10 else eX o) = e) :
 Calls prog 217 #[.pointer x, .int .u32 o] w fun e' w' => e' = .returned (.int .i64 e) /\ w = w' := by
 cases x with
 | none =>
   rw [if_pos rfl] at he; subst he
   go_enter func217, ntmps217
   go_wp2_with fail
   go_ret
   exact ⟨rfl, rfl⟩
 | some x =>
   rw [if_neg (by simp)] at he
   unfold eX at he
   cases h4 : (o % 4 != 0)
   . rw [h4, if_neg (by simp)] at he
     by_cases h8 : 16 <= o
     all_goals
      first
      | (rw [if_pos h8] at he; subst he)
      | (rw [if_neg h8] at he; subst he)
      go_enter func217, ntmps217
      go_wp2_with fail
      go_ret
      exact ⟨rfl, rfl⟩
   . rw [h4, if_pos rfl] at he; subst he
     go_enter func217, ntmps217
     go_wp2_with fail
     go_ret
     exact ⟨rfl, rfl⟩
def Tm.val (t : Tm) (o : Int) : Int := if eX o = 0 then (if o = 0 then t.ld else if o = 4 then t.v else if o = 8 then lT t.en t.re t.iq t.sc else tk t.st) else 0
theorem iL {P : Prop} (h : P := by
 go_wp2_with fail
 go_ret2
 exact ⟨rfl, rfl⟩
 ) : P := h
theorem aJj (t : Tm) (o : Int) (p : Nat) (w : World) (h : t.ok) (a : jA w p tC t) (o0 : 0 <= o) (o1 : o < 4294967296) :
 Calls prog 197 #[.pointer (some ⟨p, 0, none⟩), .int .u32 o] w fun e w' => e = .returned (.tuple #[.int .u32 (t.val o), .int .i64 (eX o)]) /\ w = w' := by
 have x0 := a.a5.c0
 have x1 := a.a5.c1
 have x2 := a.a5.c2
 have x3 := a.a5.c3
 clear a
 by_cases he : eX o = 0
 . rcases qY o0 he with rfl | rfl | rfl | rfl
   all_goals
    go_enter func197, ntmps197
    go_wp2_with (first | (go_at_call 217; refine (nW _ _ _ (by omega) (by omega) 0 (by rfl)).mono ?_; rintro e w' ⟨rfl, rfl⟩))
    go_ret2
    exact ⟨rfl, rfl⟩
 . have hv : t.val o = 0 := by unfold Tm.val; rw [if_neg he]
   rw [hv]
   have hc : (if (some (⟨p, 0, none⟩ : Addr)) = none then 10 else eX o) = eX o := by rw [if_neg (by simp)]
   have hn : (eX o == 0) = false := by simpa using he
   have hn2 : (eX o != 0) = true := by simpa using he
   go_enter func197, ntmps197
   go_wp2_with fail
   refine (nW _ _ _ o0 o1 _ hc).mono ?_
   rintro e w' ⟨rfl, rfl⟩
   exact iL
theorem aLM (t : Tm) (p : Nat) (w : World) (a : jA w p tC t) :
 Calls prog 267 #[.pointer (some ⟨p, 0, none⟩)] w fun e w' => e = .returned (.tuple #[]) /\ w' = w.setRow p (wl tz).toArray := by
 go_enter func267, ntmps267
 go_wp2_with (refine sX rfl (.tmp 7) (.tmp 5) rfl rfl (t := tz) rfl a ?_)
 go_end0
 exact ⟨rfl, rfl⟩
theorem aOC (t : Tm) (p : Nat) (w : World) (a : jA w p tC t) :
 Calls prog 196 #[.pointer (some ⟨p, 0, none⟩)] w fun e w' => e = .returned (.pointer (some ⟨w.heap.size, 0, none⟩)) /\ w' = w.alloc (.cells (wl t).toArray tC (0, 0)) := by
 have x0 := a.a5.c0
 have x1 := a.a5.c1
 have x2 := a.a5.c2
 have x3 := a.a5.c3
 have x4 := a.a5.c4
 clear a
 go_enter func196, ntmps196
 exact aR
def Tm.sto (t : Tm) (o x : Int) : Tm := if o = 0 then { t with ld := x } else if o = 8 then t.ord x else if o = 12 then { t with st := t.st && !aO x 0 } else t
theorem Tm.sto_ok {t : Tm} (h : t.ok) (o x : Int) (x0 : 0 <= x) (x1 : x < 4294967296) : (t.sto o x).ok := by
 unfold Tm.sto
 split
 . exact ⟨x0, x1, h.v0, h.v1, h.s0, h.s1, h.p0, h.p1⟩
 . split
   . exact Tm.ord_ok h x
   . split
     . exact ⟨h.l0, h.l1, h.v0, h.v1, h.s0, h.s1, h.p0, h.p1⟩
     . exact h
def eY (o : Int) : Int := if eX o = 0 then (if o = 4 then 12 else 0) else eX o
theorem mX {P : Prop} (h : P := by
 rintro e w' ⟨rfl, rfl⟩
 go_wp2_with fail
 go_ret
 exact ⟨rfl, a, aF.refl _ _⟩
 ) : P := h
theorem aLf (t : Tm) (o x : Int) (p : Nat) (w : World) (h : t.ok) (a : jA w p tC t) (o0 : 0 <= o) (o1 : o < 4294967296) (x0 : 0 <= x) (x1 : x < 4294967296) :
 Calls prog 268 #[.pointer (some ⟨p, 0, none⟩), .int .u32 o, .int .u32 x] w fun e w' => e = .returned (.int .i64 (eY o)) /\ jA w' p tC (if eY o = 0 then t.sto o x else t) /\ aF (· = p) w w' := by
 by_cases he : eX o = 0
 . rcases qY o0 he with rfl | rfl | rfl | rfl
   . have z0 := a.a5.c0
     have f0 := a.a5.free 0
     go_enter func268, ntmps268
     go_wp2_with (first | (go_at_call 217; refine (nW _ _ _ (by omega) (by omega) 0 (by rfl)).mono ?_; rintro e w' ⟨rfl, rfl⟩))
     go_ret
     exact ⟨rfl, a.a5.s0 x, aG _ _ _ _⟩
   . go_enter func268, ntmps268
     go_wp2_with (first | (go_at_call 217; refine (nW _ _ _ (by omega) (by omega) 0 (by rfl)).mono ?_; rintro e w' ⟨rfl, rfl⟩))
     go_ret
     exact ⟨rfl, a, aF.refl _ _⟩
   . go_enter func268, ntmps268
     go_wp2_with (first | (go_at_call 217; refine (nW _ _ _ (by omega) (by omega) 0 (by rfl)).mono ?_; rintro e w' ⟨rfl, rfl⟩) | (refine sU rfl (.tmp 29) rfl rfl a ?_))
     refine (aO9 t x w h x0 x1).mono ?_
     rintro e w1 ⟨rfl, hb⟩
     have a1 := a.below hb
     go_wp2_with (refine sX rfl (.tmp 34) (.tmp 32) rfl rfl rfl a1 ?_)
     go_ret
     exact ⟨rfl, jA.row a1 _, (aF.ofBelow hb).trans (rY _ _ _)⟩
   . have z3 := a.a5.c3
     have f3 := a.a5.free 3
     have hk := aAu t.st x x0 x1
     have hl := a.lt
     go_enter func268, ntmps268
     go_wp2_with (first | (go_at_call 217; refine (nW _ _ _ (by omega) (by omega) 0 (by rfl)).mono ?_; rintro e w' ⟨rfl, rfl⟩))
     have hg := bI
     have hf := cP
     refine aJ 12 (by kernel_rfl) (by kernel_rfl) ?_
     simp only [List.take_succ_cons, List.take_zero, List.drop_succ_cons, List.drop_zero]
     repeat (go_big_quiet_step (fail))
     refine wpQuiet_nil ?_
     intro _ hw'
     obtain ⟨⟨dq, osq⟩, hw''⟩ := hw'
     subst hw''
     go_wp2_with fail
     go_ret
     have a1 := a.below (below_regrown w dq osq)
     refine ⟨rfl, ?_, (aF.ofBelow (below_regrown w dq osq)).trans (aG _ _ _ _)⟩
     have := a1.a5.s3 (tk (t.st && !aO x 0))
     first
     | (rw [hk]; exact this)
     | exact this
 . have hs : eY o = eX o := by unfold eY; rw [if_neg he]
   rw [hs, if_neg he]
   have hc : (if (some (⟨p, 0, none⟩ : Addr)) = none then 10 else eX o) = eX o := by rw [if_neg (by simp)]
   have hn : (eX o == 0) = false := by simpa using he
   have hn2 : (eX o != 0) = true := by simpa using he
   go_enter func268, ntmps268
   go_wp2_with fail
   refine (nW _ _ _ o0 o1 _ hc).mono ?_
   exact mX
theorem iM : (prog.info? 228).map (·.size) = some 8 := by kernel_rfl
def r8 (ld v : Int) (en re iq : Bool) (sc ph : Int) (st : Bool) : List Value := [.int .u32 ld, .int .u32 v, .bool en, .bool re, .bool iq, .int .u32 sc, .int .u32 ph, .bool st]
def rl (t : Tm) : List Value := r8 t.ld t.v t.en t.re t.iq t.sc t.ph t.st
theorem aGf (ld v : Int) (en re iq : Bool) (sc ph : Int) (st : Bool) : ∀ x ∈ r8 ld v en re iq sc ph st, x.oneCell' = true := by
 intro x h
 simp only [r8, List.mem_cons, List.not_mem_nil, or_false] at h
 rcases h with rfl | rfl | rfl | rfl | rfl | rfl | rfl | rfl <;> rfl
abbrev tM : TypeId := 228
def cA (w : World) (b : Nat) (t : Tm) : Prop := w.heap[b]? = some (.cells (rl t).toArray tM (0, 0))
section
variable {w w' : World} {b : Nat} {t : Tm}
theorem cA.lt (h : cA w b t) : b < w.heap.size := lt_of_block h
theorem cA.below (h : cA w b t) (hb : Below w.heap.size w w') : cA w' b t := aC hb h h.lt
theorem cA.off {S : Nat -> Prop} (h : cA w b t) (ho : aF S w w') (hs : ¬ S b) : cA w' b t := ho.at h hs
theorem cA.free (h : cA w b t) (j : Nat) : w.frozen? ⟨b, j, none⟩ = false := aN h j
theorem cA.c0 (h : cA w b t) : w.cell? ⟨b, 0, none⟩ = some (.int .u32 t.ld) := by rw [aA h 0]; rfl
theorem cA.c1 (h : cA w b t) : w.cell? ⟨b, 1, none⟩ = some (.int .u32 t.v) := by rw [aA h 1]; rfl
theorem cA.c2 (h : cA w b t) : w.cell? ⟨b, 2, none⟩ = some (.bool t.en) := by rw [aA h 2]; rfl
theorem cA.c3 (h : cA w b t) : w.cell? ⟨b, 3, none⟩ = some (.bool t.re) := by rw [aA h 3]; rfl
theorem cA.c4 (h : cA w b t) : w.cell? ⟨b, 4, none⟩ = some (.bool t.iq) := by rw [aA h 4]; rfl
theorem cA.c5 (h : cA w b t) : w.cell? ⟨b, 5, none⟩ = some (.int .u32 t.sc) := by rw [aA h 5]; rfl
theorem cA.c6 (h : cA w b t) : w.cell? ⟨b, 6, none⟩ = some (.int .u32 t.ph) := by rw [aA h 6]; rfl
theorem cA.c7 (h : cA w b t) : w.cell? ⟨b, 7, none⟩ = some (.bool t.st) := by rw [aA h 7]; rfl
theorem cA.set (h : cA w b t) (j : Nat) (x : Value) {s : Tm} (he : (rl t).set j x = rl s) : cA (w.setCell ⟨b, j, none⟩ x) b s := by
 unfold cA; rw [aS h, <- he]; simp
theorem cA.s0 (h : cA w b t) (x : Int) : cA (w.setCell ⟨b, 0, none⟩ (.int .u32 x)) b { t with ld := x } := h.set _ _ rfl
theorem cA.s1 (h : cA w b t) (x : Int) : cA (w.setCell ⟨b, 1, none⟩ (.int .u32 x)) b { t with v := x } := h.set _ _ rfl
theorem cA.s2 (h : cA w b t) (x : Bool) : cA (w.setCell ⟨b, 2, none⟩ (.bool x)) b { t with en := x } := h.set _ _ rfl
theorem cA.s3 (h : cA w b t) (x : Bool) : cA (w.setCell ⟨b, 3, none⟩ (.bool x)) b { t with re := x } := h.set _ _ rfl
theorem cA.s4 (h : cA w b t) (x : Bool) : cA (w.setCell ⟨b, 4, none⟩ (.bool x)) b { t with iq := x } := h.set _ _ rfl
theorem cA.s5 (h : cA w b t) (x : Int) : cA (w.setCell ⟨b, 5, none⟩ (.int .u32 x)) b { t with sc := x } := h.set _ _ rfl
theorem cA.s6 (h : cA w b t) (x : Int) : cA (w.setCell ⟨b, 6, none⟩ (.int .u32 x)) b { t with ph := x } := h.set _ _ rfl
theorem cA.s7 (h : cA w b t) (x : Bool) : cA (w.setCell ⟨b, 7, none⟩ (.bool x)) b { t with st := x } := h.set _ _ rfl
theorem cA.other (h : cA w b t) (k j : Nat) (x : Value) (hne : b ≠ k) : cA (w.setCell ⟨k, j, none⟩ x) b t := aW h k j x hne
theorem cA.row {old : Array Value} (h : w.heap[b]? = some (.cells old tM (0, 0))) (t : Tm) : cA (w.setRow b (rl t).toArray) b t := aT _ h
theorem cA.elseRow (h : cA w b t) (g : Nat) (cs : Array Value) (hne : b ≠ g) : cA (w.setRow g cs) b t := iT g cs h hne
theorem cA.grown (h : cA w b t) : ∀ w', (∃ p : Regrown, w' = grow (redrawn w p.d) p.os) -> cA w' b t := cV h
end
section
variable {ops : Array Oper} {rest : List Oper} {o : Oper} {a : Act} {w : World} {Q : Exit -> Act -> World -> Prop}
theorem dS (hgd : o.guard = none) (x : Operand) (ho : o.op = .load 228 x) {b : Nat} (hx : a.eval x = .pointer (some ⟨b, 0, none⟩)) {t : Tm} (hg : cA w b t)
 (h : wpList prog ops Q rest (a.put o.dst (.agg (rl t).toArray)) w) : wpList prog ops Q (o :: rest) a w :=
 aL hgd _ x ho b 0 hx _ (rl t) hg underlying228 rfl iM (aM _) h
theorem aLt (x : Operand) (ho : o.op = .load 228 x) (hw : Region.wanted o (yielded ops a.tmps) = true) {b : Nat} (hx : a.eval x = .pointer (some ⟨b, 0, none⟩)) {t : Tm} (hg : cA w b t)
 (h : wpList prog ops Q rest (a.put o.dst (.agg (rl t).toArray)) w) : wpList prog ops Q (o :: rest) a w :=
 cK _ x ho hw b 0 hx _ (rl t) hg underlying228 rfl iM (aM _) h
theorem eN (hgd : o.guard = none) (x y : Operand) (ho : o.op = .store 228 x y) {b : Nat} (hx : a.eval x = .pointer (some ⟨b, 0, none⟩)) {t : Tm} (hy : a.eval y = .agg (rl t).toArray) {t' : Tm} (hg : cA w b t')
 (h : wpList prog ops Q rest (a.put o.dst undef) (w.setRow b (rl t).toArray)) : wpList prog ops Q (o :: rest) a w := by
 refine aH hgd _ x y ho b 0 hx (rl t) hy hg iM (by simp [rl, r8]) (aGf _ _ _ _ _ _ _ _) ?_
 rw [aV _ _ (by simp [rl, r8])]
 exact h
theorem aLo {C : World -> Prop} {K : Act -> Prop} (x : Operand) (ho : o.op = .load 228 x) {b : Nat} (hx : a.eval x = .pointer (some ⟨b, 0, none⟩)) {t : Tm} (hg : ∀ w, C w -> cA w b t)
 (h : K (a.put o.dst (.agg (rl t).toArray))) : o.quiet prog a C K :=
 bD _ x ho b 0 hx _ (rl t) (fun w hw => hg w hw) underlying228 rfl iM (aM _) h
end
theorem aAP {fn : Func} {p : Tmp} (h : fn.results = #[.cell p 228]) (tmps : Array Value) (w : World) {b : Nat} {t : Tm} (hp : tmps[p]? = some (.pointer (some ⟨b, 0, none⟩))) (hg : cA w b t) :
 (results fn tmps).run prog w = .ok (.agg (rl t).toArray) w :=
 aU h tmps w b 0 _ (rl t) hp hg underlying228 rfl iM (aM _)
theorem aJo {fn : Func} {p q : Tmp} (h : fn.results = #[.cell p 228, .tmp q]) (tmps : Array Value) (w : World) {b : Nat} {t : Tm} (y : Value) (hp : tmps[p]? = some (.pointer (some ⟨b, 0, none⟩))) (hq : tmps[q]? = some y) (hg : cA w b t) :
 (results fn tmps).run prog w = .ok (.tuple #[.agg (rl t).toArray, y]) w :=
 bB h tmps w b 0 _ (rl t) y hp hq hg underlying228 rfl iM (aM _)
def zM : Obj := .cells (rl tz).toArray tM (0, 0)
theorem kM : Obj.cells #[.int .u32 0, .int .u32 0, .bool false, .bool false, .bool false, .int .u32 0, .int .u32 0, .bool false] 228 (0, 0) = zM := rfl
def oM (t : Tm) : Obj := .cells (rl t).toArray tM (0, 0)
theorem uC (b : Bool) (k : Int) (w : World) : Calls prog 211 #[.bool b, .int .u32 k] w fun e w' => e = .returned (.int .u32 (if b = true then k else 0)) /\ w = w' := by
 cases b
 all_goals
  go_enter func211, ntmps211
  go_wp2_with fail
  go_ret
  exact ⟨rfl, rfl⟩
theorem vY {P : Prop} (h : P := by
 go_enter func188, ntmps188
 go_upto_region 1 with (fail)
 rw [show Obj.cells (rl t).toArray 228 (0, 0) = oM t from rfl]
 generalize (w.alloc (oM t)) = W at *
 go_wp2_with fail
 go_ret
 exact ⟨bH (by have := HE.out; omega), hB⟩
 ) : P := h
theorem aG6 (t : Tm) (w : World) (h : t.ok) : Calls prog 188 #[.agg (rl t).toArray] w fun e w' => e = .returned (.int .u64 t.lef) /\ Below w.heap.size w w' := by
 have hB := aE (aI w) (oM t)
 have X : cA (w.alloc (oM t)) w.heap.size t := aD w (oM t)
 have hL := h.left
 obtain ⟨l0, l1, v0, v1, s0, s1, p0, p1⟩ := h
 unfold Tm.left lft at hL
 have he : Hid (t.en = true -> max t.v 1 * (t.sc + 1) - t.ph = t.lef) := Hd (fun he => by unfold Tm.lef Tm.left lft; rw [if_pos he])
 have x1 := X.c1
 have x2 := X.c2
 have x5 := X.c5
 have x6 := X.c6
 cases hen : t.en
 . rw [hen] at x2
   go_enter func188, ntmps188
   go_upto_region 1 with (fail)
   rw [show Obj.cells (rl t).toArray 228 (0, 0) = oM t from rfl]
   generalize (w.alloc (oM t)) = W at *
   go_wp2_with fail
   go_ret
   exact ⟨bH (by unfold Tm.lef; rw [hen]; rfl), hB⟩
 . rw [hen] at x2
   have hm : (max t.v 1 - 1) * (t.sc + 1) = max t.v 1 * (t.sc + 1) - (t.sc + 1) := by rw [Int.sub_mul]; omega
   have hp := tN (a := max t.v 1) (b := max t.v 1) (u := t.sc + 1) (by omega) (by omega) (by omega)
   have hq : 0 <= (max t.v 1 - 1) * (t.sc + 1) /\ (max t.v 1 - 1) * (t.sc + 1) < 1099511627776 := by omega
   have hr : (max t.v 1 - 1) * (t.sc + 1) + t.sc + 1 - t.ph = max t.v 1 * (t.sc + 1) - t.ph := by omega
   have HE := Hd (hr.trans (he.out hen))
   by_cases hv : t.v = 0
   . rw [show max t.v 1 = 1 by omega] at HE
     rw [hv] at x1
     clear hm hp hq hr he hL
     simp only [Int.sub_self, Int.zero_mul, Int.zero_add] at HE
     exact vY
   . rw [show max t.v 1 = t.v by omega] at HE hq
     have hv2 : (t.v == 0) = false := by simpa using hv
     clear hm hp hr he hL
     exact vY
theorem aJP (f : Nat -> Bool) (k : Nat) (h : k < 32) : bits BinOp.or IntKind.u32 (ob f k) (un k) = ob f k + un k := by
 have h1 := gL f k (by omega)
 have h2 := kV k
 rw [aCD _ _ h1.1 h1.2 h2.1 h2.2, aBj k h]
 unfold ob
 rw [Int.toNat_natCast, Int.toNat_natCast, Nat.or_comm]
 have := Nat.two_pow_add_eq_or_of_lt (kW f k) 1
 rw [Nat.mul_one] at this
 rw [<- this]
 omega
theorem aFv (f g : Nat -> Bool) : ∀ k : Nat, (∀ i, i < k -> f i = g i) -> ob f k = ob g k := by
 intro k
 induction k with
 | zero => intro _; rfl
 | succ k ih =>
   intro h
   have h1 := ih fun i hi => h i (by omega)
   have h2 := h k (by omega)
   unfold ob at h1 ⊢
   unfold fF
   rw [h2]
   have h3 : fF f k = fF g k := by omega
   rw [h3]
def nvr : Int := 18446744073709551615
def jD (t : Nat -> Tm) (a b : Nat) (m i : Int) : Prop :=
 (i = -1 /\ m = nvr /\ ∀ k, a <= k -> k < b -> (t k).en = false) \/
 ∃ j : Nat, i = j /\ a <= j /\ j < b /\ (t j).en = true /\ m = (t j).left /\ ∀ k, a <= k -> k < b -> (t k).en = true -> m <= (t k).left /\ (k < j -> m < (t k).left)
theorem tJ (t : Nat -> Tm) (a : Nat) : jD t a a nvr (-1) := .inl ⟨rfl, rfl, fun k h1 h2 => by omega⟩
theorem jD.bounds {t : Nat -> Tm} {a b : Nat} {m i : Int} (h : jD t a b m i) (ok : ∀ k, k < b -> (t k).ok) : 1 <= m /\ m <= nvr := by
 unfold nvr
 rcases h with ⟨_, rfl, _⟩ | ⟨j, _, _, hj, _, rfl, _⟩
 . unfold nvr; omega
 . have := (ok j hj).left; omega
theorem jD.place {t : Nat -> Tm} {a b : Nat} {m i : Int} (h : jD t a b m i) : -1 <= i /\ i < b \/ i = -1 := by
 rcases h with ⟨rfl, _⟩ | ⟨j, rfl, _, hj, _⟩
 . exact .inr rfl
 . exact .inl (by omega)
theorem jD.same {t : Nat -> Tm} {a b : Nat} {m i m' i' : Int} (h : jD t a b m i) (h' : jD t a b m' i') : m = m' /\ i = i' := by
 rcases h with ⟨rfl, rfl, h⟩ | ⟨j, rfl, a1, b1, e1, rfl, h⟩ <;> rcases h' with ⟨rfl, rfl, h'⟩ | ⟨j', rfl, a2, b2, e2, rfl, h'⟩
 . exact ⟨rfl, rfl⟩
 . rw [h j' a2 b2] at e2; cases e2
 . rw [h' j a1 b1] at e1; cases e1
 . have h1 := h j' a2 b2 e2
   have h2 := h' j a1 b1 e1
   have : j = j' := by
    rcases Nat.lt_trichotomy j j' with c | c | c
    . have := h2.2 c; omega
    . exact c
    . have := h1.2 c; omega
   subst this
   exact ⟨rfl, rfl⟩
theorem aCH {t : Tm} (h : t.ok) : 1 <= t.lef /\ t.lef <= nvr := by
 have := h.left
 unfold Tm.lef nvr
 split <;> omega
theorem aD6 {t : Tm} (h : t.ok) : nvr <= t.lef -> t.en = false := by
 intro hn
 have := h.left
 unfold Tm.lef nvr at hn
 cases he : t.en
 . rfl
 . rw [he, if_pos rfl] at hn; omega
theorem jD.skip {t : Nat -> Tm} {k : Nat} {m i : Int} (h : jD t 0 k m i) (ok : (t k).ok) (hl : m <= (t k).lef) : jD t 0 (k + 1) m i := by
 rcases h with ⟨rfl, rfl, h⟩ | ⟨j, rfl, a1, b1, e1, rfl, h⟩
 . refine .inl ⟨rfl, rfl, fun q h1 h2 => ?_⟩
   by_cases hq : q = k
   . subst hq; exact aD6 ok hl
   . exact h q h1 (by omega)
 . refine .inr ⟨j, rfl, a1, by omega, e1, rfl, fun q h1 h2 e => ?_⟩
   by_cases hq : q = k
   . subst hq
     unfold Tm.lef at hl
     rw [if_pos e] at hl
     exact ⟨hl, fun hj => by omega⟩
   . exact h q h1 (by omega) e
theorem jD.take {t : Nat -> Tm} {k : Nat} {m i : Int} (h : jD t 0 k m i) (hok : ∀ q, q < k -> (t q).ok) (ok : (t k).ok) (hl : (t k).lef < m) : jD t 0 (k + 1) (t k).lef k := by
 have hm := (h.bounds hok).2
 have he : (t k).en = true := by
  cases he : (t k).en
  . unfold Tm.lef at hl
    rw [he] at hl
    unfold nvr at hm
    simp at hl
    omega
  . rfl
 have hlf : (t k).lef = (t k).left := by unfold Tm.lef; rw [if_pos he]
 rw [hlf] at hl ⊢
 refine .inr ⟨k, rfl, by omega, by omega, he, rfl, fun q h1 h2 e => ?_⟩
 by_cases hq : q = k
 . subst hq; exact ⟨Int.le_refl _, fun hj => by omega⟩
 . rcases h with ⟨rfl, rfl, h⟩ | ⟨j, rfl, a1, b1, e1, rfl, h⟩
   . rw [h q h1 (by omega)] at e; cases e
   . have := h q h1 (by omega) e
     exact ⟨by omega, fun _ => by omega⟩
theorem jD.keep {t : Nat -> Tm} {k n : Nat} {m i : Int} (h : jD t (k + 1) n m i) (ok : (t k).ok) (hl : ((t k).en = true -> m < (t k).left)) : jD t k n m i := by
 rcases h with ⟨rfl, rfl, h⟩ | ⟨j, rfl, a1, b1, e1, rfl, h⟩
 . refine .inl ⟨rfl, rfl, fun q h1 h2 => ?_⟩
   by_cases hq : q = k
   . subst hq
     cases he : (t q).en
     . rfl
     . have := hl he
       have := ok.left
       unfold nvr at *
       omega
   . exact h q (by omega) h2
 . refine .inr ⟨j, rfl, by omega, b1, e1, rfl, fun q h1 h2 e => ?_⟩
   by_cases hq : q = k
   . subst hq; have := hl e; exact ⟨by omega, fun _ => this⟩
   . exact h q (by omega) h2 e
theorem jD.put {t : Nat -> Tm} {k n : Nat} {m i : Int} (h : jD t (k + 1) n m i) (hk : k < n) (he : (t k).en = true) (hl : (t k).left <= m) : jD t k n (t k).left k := by
 refine .inr ⟨k, rfl, Nat.le_refl _, hk, he, rfl, fun q h1 h2 e => ?_⟩
 by_cases hq : q = k
 . subst hq; exact ⟨Int.le_refl _, fun hj => by omega⟩
 . rcases h with ⟨rfl, rfl, h⟩ | ⟨j, rfl, a1, b1, e1, rfl, h⟩
   . rw [h q (by omega) h2] at e; cases e
   . have := h q (by omega) h2 e
     exact ⟨by omega, fun hj => by omega⟩
theorem aD9 (t : Nat -> Tm) : ∀ n : Nat, (∀ k, k < n -> (t k).ok) -> ∃ m i : Int, jD t 0 n m i := by
 intro n
 induction n with
 | zero => intro _; exact ⟨_, _, tJ t 0⟩
 | succ n ih =>
   intro ok
   obtain ⟨m, i, h⟩ := ih fun k hk => ok k (by omega)
   by_cases hl : m <= (t n).lef
   . exact ⟨m, i, h.skip (ok n (by omega)) hl⟩
   . exact ⟨_, _, h.take (fun q hq => ok q (by omega)) (ok n (by omega)) (by omega)⟩
def nO (t : Nat -> Tm) (i : Nat) (s : Tm) : Nat -> Tm := fun k => if k = i then s else t k
theorem nK (t : Nat -> Tm) (i : Nat) (s : Tm) : nO t i s i = s := if_pos rfl
theorem mR (t : Nat -> Tm) {i k : Nat} (s : Tm) (h : k ≠ i) : nO t i s k = t k := if_neg h
def jG (n : Nat) (o : Int) : Int := if (o % 4 != 0) = true then 11 else if (n : Int) <= o / 32 then 10 else 0
abbrev tBk : TypeId := 172
abbrev tRm : TypeId := 251
def jN (k : Nat) : Value := .pointer (some ⟨k, 0, none⟩)
def rm (n : Nat) (q : Nat -> Nat) : List Value := (List.range 8).map fun i => if i < n then jN (q i) else .pointer none
theorem xR (n : Nat) (q : Nat -> Nat) : (rm n q).length = 8 := by simp [rm]
theorem aEv (n : Nat) (q : Nat -> Nat) (i : Nat) (h : i < n) (h8 : n <= 8) : (rm n q)[i]? = some (jN (q i)) := by simp [rm, show i < 8 by omega, h]
theorem aKb (n : Nat) (q : Nat -> Nat) (r : Nat) (h : n < 8) : (rm n q).set n (jN r) = rm (n + 1) (fun i => if i = n then r else q i) := by
 apply List.ext_getElem?
 intro i
 rw [List.getElem?_set]
 by_cases e : n = i
 . subst e
   rw [if_pos rfl, if_pos (by rw [xR]; exact h), aEv _ _ _ (by omega) (by omega)]
   simp
 . rw [if_neg e]
   by_cases h8 : i < 8
   . unfold rm
     simp only [List.getElem?_map, List.getElem?_range h8, Option.map_some]
     by_cases hi : i < n
     . rw [if_pos hi, if_pos (by omega), if_neg (fun x => e x.symm)]
     . rw [if_neg hi, if_neg (by omega)]
   . rw [List.getElem?_eq_none (by rw [xR]; omega), List.getElem?_eq_none (by rw [xR]; omega)]
structure gY (w : World) (g n : Nat) (q : Nat -> Nat) (t : Nat -> Tm) : Prop where
 room : w.heap[g]? = some (.cells (rm n q).toArray tRm (0, 0))
 tms : ∀ i, i < n -> jA w (q i) tC (t i)
 ok : ∀ i, i < n -> (t i).ok
 one : ∀ i j, i < n -> j < n -> q i = q j -> i = j
 n8 : n <= 8
structure cI (w : World) (p g n : Nat) (q : Nat -> Nat) (t : Nat -> Tm) : Prop where
 cell : w.heap[p]? = some (.cells #[.slice (some ⟨g, 0, none⟩) n n] tBk (0, 0))
 rm : gY w g n q t
def own (n : Nat) (q : Nat -> Nat) (k : Nat) : Prop := ∃ i, i < n /\ k = q i
section
variable {w w' : World} {p g n : Nat} {q : Nat -> Nat} {t s : Nat -> Tm}
theorem gY.lt (h : gY w g n q t) : g < w.heap.size := lt_of_block h.room
theorem gY.ltq (h : gY w g n q t) {i : Nat} (hi : i < n) : q i < w.heap.size := (h.tms i hi).lt
theorem gY.gne (h : gY w g n q t) {i : Nat} (hi : i < n) : q i ≠ g := aK (h.tms i hi) h.room rfl
theorem gY.below (h : gY w g n q t) (hb : Below w.heap.size w w') : gY w' g n q t :=
 ⟨aC hb h.room h.lt, fun i hi => (h.tms i hi).below hb, h.ok, h.one, h.n8⟩
theorem gY.off {S : Nat -> Prop} (h : gY w g n q t) (ho : aF S w w') (hg : ¬ S g) (hq : ∀ i, i < n -> ¬ S (q i)) : gY w' g n q t :=
 ⟨ho.at h.room hg, fun i hi => (h.tms i hi).off ho (hq i hi), h.ok, h.one, h.n8⟩
theorem gY.congr (h : gY w g n q t) (hs : ∀ i, i < n -> t i = s i) : gY w g n q s :=
 ⟨h.room, fun i hi => by rw [<- hs i hi]; exact h.tms i hi, fun i hi => by rw [<- hs i hi]; exact h.ok i hi, h.one, h.n8⟩
theorem gY.turn (h : gY w g n q t) {i : Nat} {x : Tm} (hi : i < n) (a : jA w' (q i) tC x) (ox : x.ok) (ho : aF (· = q i) w w') : gY w' g n q (nO t i x) :=
 ⟨ho.at h.room (fun e => h.gne hi e.symm), fun k hk => by
  by_cases e : k = i
  . subst e; rw [nK]; exact a
  . rw [mR _ _ e]; exact (h.tms k hk).off ho (fun e2 => e (h.one k i hk hi e2)), fun k hk => by
  by_cases e : k = i
  . subst e; rw [nK]; exact ox
  . rw [mR _ _ e]; exact h.ok k hk, h.one, h.n8⟩
theorem gY.cell (h : gY w g n q t) {i : Nat} (hi : i < n) : w.cell? ⟨g, i, none⟩ = some (.pointer (some ⟨q i, 0, none⟩)) := by
 rw [aA h.room i]
 simpa [jN] using aEv n q i hi h.n8
theorem cI.ltp (h : cI w p g n q t) : p < w.heap.size := lt_of_block h.cell
theorem cI.c0 (h : cI w p g n q t) : w.cell? ⟨p, 0, none⟩ = some (.slice (some ⟨g, 0, none⟩) n n) := by rw [aA h.cell 0]; rfl
theorem cI.pne (h : cI w p g n q t) {i : Nat} (hi : i < n) : q i ≠ p := aK (h.rm.tms i hi) h.cell rfl
theorem cI.below (h : cI w p g n q t) (hb : Below w.heap.size w w') : cI w' p g n q t := ⟨aC hb h.cell h.ltp, h.rm.below hb⟩
theorem cI.off {S : Nat -> Prop} (h : cI w p g n q t) (ho : aF S w w') (hp : ¬ S p) (hg : ¬ S g) (hq : ∀ i, i < n -> ¬ S (q i)) : cI w' p g n q t := ⟨ho.at h.cell hp, h.rm.off ho hg hq⟩
theorem cI.congr (h : cI w p g n q t) (hs : ∀ i, i < n -> t i = s i) : cI w p g n q s := ⟨h.cell, h.rm.congr hs⟩
theorem cI.turn (h : cI w p g n q t) {i : Nat} {x : Tm} (hi : i < n) (a : jA w' (q i) tC x) (ox : x.ok) (ho : aF (· = q i) w w') : cI w' p g n q (nO t i x) :=
 ⟨ho.at h.cell (fun e => h.pne hi e.symm), h.rm.turn hi a ox ho⟩
theorem cI.get (h : cI w p g n q t) {i : Nat} (hi : i < n) : w.cell? ⟨g, i, none⟩ = some (.pointer (some ⟨q i, 0, none⟩)) := h.rm.cell hi
end
theorem aF.own {n : Nat} {q : Nat -> Nat} {i : Nat} (hi : i < n) {w w' : World} (h : aF (· = q i) w w') : aF (own n q) w w' := h.mono fun k _ e => ⟨i, hi, e⟩
end Go.Proofs.YtpojmmgokgamgaaGreat.B
