/- A part of the proof of a law of layer 12: ba. -/
import Derived.Test.YtaohacadochldaaGreatZCaz
set_option linter.unusedVariables false
set_option linter.unusedSimpArgs false
set_option maxHeartbeats 12800000
set_option maxRecDepth 100000
namespace Go.Proofs.YtaohacadochldaaGreat.B
open Go.Proofs.Tryz
open Go.ChangeShapes Go.WideShapes Go.RowKit Go.Sort
def zC : Obj := .cells #[.int .u64 0, .int .u32 0, .int .u32 0, .int .u32 0, .int .u32 0, .int .u32 0, .int .u32 0, .int .u32 0, .int .u32 0, .int .u32 0, .int .u32 0, .int .u32 0, .int .u32 0, .int .u32 0, .int .u32 0, .int .u32 0, .int .u32 0, .int .u32 0, .int .u32 0, .int .u32 0, .int .u32 0, .int .u32 0, .int .u32 0, .int .u32 0, .int .u32 0, .int .i64 0] 29
theorem sP : Obj.cells #[.int .u64 0, .int .u32 0, .int .u32 0, .int .u32 0, .int .u32 0, .int .u32 0, .int .u32 0, .int .u32 0, .int .u32 0, .int .u32 0, .int .u32 0, .int .u32 0, .int .u32 0, .int .u32 0, .int .u32 0, .int .u32 0, .int .u32 0, .int .u32 0, .int .u32 0, .int .u32 0, .int .u32 0, .int .u32 0, .int .u32 0, .int .u32 0, .int .u32 0, .int .i64 0] 29 = zC := rfl
theorem aC1 (v t : Int) (n : Nat) (A B S : Nat -> Int) (w : World) (t0 : 0 <= t) (t1 : t < 18446744073709551616) (v0 : 0 <= v) (v1 : v < 18446744073709551616) :
 Calls prog 77 #[.agg (dV t n A B S).toArray, .int .u64 v] w fun e w' => e = .returned (.agg (dV (eF t v) n A B S).toArray) /\ Below w.heap.size w w' := by
 go_enter func77, ntmps77
 have h0 : bK ((w.alloc (.cells (dV t n A B S).toArray 29)).alloc zC) w.heap.size t n A B S := bM w _ _
 have h1 : bK ((w.alloc (.cells (dV t n A B S).toArray 29)).alloc zC) (w.heap.size + 1) 0 0 jB jB jB := bU w _ _
 have hb := aE (aE (aH w) (.cells (dV t n A B S).toArray 29)) zC
 go_upto_region 1 with (fail)
 rw [sP]
 generalize ((w.alloc (.cells (dV t n A B S).toArray 29)).alloc zC) = W at *
 have c := h0.cT
 have f := h0.free 0
 have k0 := h0.setT (eF t v)
 have k1 := h1.other w.heap.size 0 (.int .u64 (eF t v)) (by omega)
 have hb2 := hb.setCell (p := ⟨w.heap.size, 0, none⟩) (Nat.le_refl _) (.int .u64 (eF t v))
 have K0 := Hd k0
 have K1 := Hd k1
 clear h0 h1 k0 k1
 go_wp2_with (first | (go_at_call 137; refine (aMh _ _ _ t0 t1 v0 v1).mono ?_; rintro e w' ⟨rfl, rfl⟩) | (refine mG rfl (.tmp 2) rfl rfl K0.out ?_) | (refine nF rfl (.tmp 4) (.tmp 10) rfl rfl rfl K1.out (by rw [List.size_toArray, eJ]) ?_))
 exact bodyPost_ret (v := .agg (dV (eF t v) n A B S).toArray) (aMm results77 _ _ rfl (bK.row K1.out)) rfl ⟨rfl, aB hb2 _ (by omega)⟩
def frs (c : Int) (A : Nat -> Int) (k : Nat) : Nat -> Int := fun i => if i < k then c else A i
theorem tY (c : Int) (A : Nat -> Int) : frs c A 0 = A := by funext i; simp [frs]
theorem tX (c : Int) (A : Nat -> Int) (k : Nat) : upd (frs c A k) k c = frs c A (k + 1) := by
 funext i; unfold upd frs
 exact rI
theorem zO (c : Int) (A : Nat -> Int) (i : Nat) (h : i < 8) : frs c A 8 i = c := by unfold frs; rw [if_pos h]
theorem aDv (t : Int) (n : Nat) (A B S : Nat -> Int) (w : World) :
 Calls prog 118 #[.agg (dV t n A B S).toArray] w fun e w' => e = .returned (.agg (gC t n nvD jB).toArray) /\ Below w.heap.size w w' := by
 go_enter func118, ntmps118
 have h0 : bK ((w.alloc (.cells (dV t n A B S).toArray 29)).alloc zC) w.heap.size t n A B S := bM w _ _
 have h1 : bK ((w.alloc (.cells (dV t n A B S).toArray 29)).alloc zC) (w.heap.size + 1) 0 0 jB jB jB := bU w _ _
 have hb := aE (aE (aH w) (.cells (dV t n A B S).toArray 29)) zC
 go_wp2_with fail
 rw [sP]
 generalize ((w.alloc (.cells (dV t n A B S).toArray 29)).alloc zC) = W at *
 go_loopw [3] (fun i wr => ∃ k : Nat, k <= 8 /\ i = .int .i64 k /\ bK wr w.heap.size t n (frs 4294967295 A k) (frs 4294967295 B k) (frs 0 S k) /\ bK wr (w.heap.size + 1) 0 0 jB jB jB /\ Below w.heap.size w wr) (fun i _ => 8 - (intOf i).toNat)
 case atStart => exact ⟨0, by omega, rfl, by rw [tY, tY, tY]; exact h0, h1, hb⟩
 case round =>
  clear h0 h1 hb
  obtain ⟨k, hk, rfl, h0, h1, hb⟩ := hrel
  by_cases hlt : k < 8
  . have g1 := h0.setL k 4294967295 hlt
    have g2 := g1.setH k 4294967295 hlt
    have g3 := g2.setS k 0 hlt
    rw [tX, tX, tX] at g3
    have q := ((h1.other w.heap.size (1 + k) (.int .u32 4294967295) (by omega)).other w.heap.size (9 + k) (.int .u32 4294967295) (by omega)).other w.heap.size (17 + k) (.int .u32 0) (by omega)
    have b3 := ((hb.setCell (p := ⟨w.heap.size, 1 + k, none⟩) (Nat.le_refl _) (.int .u32 4294967295)).setCell (p := ⟨w.heap.size, 9 + k, none⟩) (Nat.le_refl _) (.int .u32 4294967295)).setCell (p := ⟨w.heap.size, 17 + k, none⟩) (Nat.le_refl _) (.int .u32 0)
    have G3 := Hd g3
    have c1 := h0.cL k hlt
    have f1 := h0.free (1 + k)
    have c2 := h0.cH k hlt
    have f2 := h0.free (9 + k)
    have c3 := h0.cS k hlt
    have f3 := h0.free (17 + k)
    clear g1 g2 g3 h0 h1
    go_wp2_with fail
    go_roundw
    case rel => exact ⟨k + 1, by omega, by go_num, G3.out, q, b3⟩
    case measure => simp [intOf]; omega
  . obtain rfl : k = 8 := by omega
    have e : dV t n (frs 4294967295 A 8) (frs 4294967295 B 8) (frs 0 S 8) = gC t n nvD jB := aEr (fun i hi => by rw [zO _ _ _ hi]; rfl) (fun i hi => by rw [zO _ _ _ hi]; rfl) (fun i hi => by rw [zO _ _ _ hi]; rfl)
    have E := Hd e
    clear e
    go_wp2_with (first | (refine mG rfl (.tmp 1) rfl rfl h0 ?_) | (refine nF rfl (.tmp 2) (.tmp 17) rfl rfl rfl h1 (by rw [List.size_toArray, eJ]) ?_))
    exact bodyPost_ret (v := .agg (dV t n (frs 4294967295 A 8) (frs 4294967295 B 8) (frs 0 S 8)).toArray) (aMm results118 _ _ rfl (bK.row h1)) rfl ⟨by rw [E.out], aB hb _ (by omega)⟩
theorem aKc (n : Nat) (w : World) :
 Calls prog 65 #[.int .i64 n] w fun e w' => e = .returned (.agg (gC 0 n nvD jB).toArray) /\ Below w.heap.size w w' := by
 go_enter func65, ntmps65
 have h0 : bK (w.alloc zC) w.heap.size 0 0 jB jB jB := aD w _
 have hb := aE (aH w) zC
 go_wp2_with fail
 rw [sP]
 generalize w.alloc zC = W at *
 refine (aDv 0 n jB jB jB W).mono ?_
 rintro e w1 ⟨rfl, hb1⟩
 have h1 := h0.below hb1
 have hb2 := tr hb hb1
 clear h0 hb hb1
 unfold gC
 go_wp2_with (refine nF rfl (.tmp 2) (.tmp 5) rfl rfl rfl h1 (by rw [List.size_toArray, eJ]) ?_)
 exact bodyPost_ret (v := .agg (gC 0 n nvD jB).toArray) (aMm results65 _ _ rfl (bK.row h1)) rfl ⟨rfl, aB hb2 _ (Nat.le_refl _)⟩
theorem yN (h t : Int) (n : Nat) (D S : Nat -> Int) (w : World) (n8 : n <= 8) (hD : okD D) :
 Calls prog 46 #[.agg (gC t n D S).toArray, .int .i64 h] w fun e w' => e = .returned (.int .u64 (oL n D h)) /\ Below w.heap.size w w' := by
 unfold gC
 have h0 : bK (w.alloc (.cells (dV t n (fun i => lo (D i)) (fun i => hi (D i)) S).toArray 29)) w.heap.size t n (fun i => lo (D i)) (fun i => hi (D i)) S := aD w _
 have hb := aE (aH w) (.cells (dV t n (fun i => lo (D i)) (fun i => hi (D i)) S).toArray 29)
 have hl := h0.lt
 have cN := h0.cN
 cases hq : dT n h
 . rw [show oL n D h = 18446744073709551615 by unfold oL; rw [hq]; rfl]
   have hh : ¬ (0 <= h /\ h < (n : Int)) := by unfold dT at hq; simpa using hq
   by_cases hz : 0 <= h
   all_goals
    go_enter func46, ntmps46
    go_wp2_with fail
    go_ret
    exact ⟨rfl, hb⟩
 . have hh : 0 <= h /\ h < (n : Int) := by unfold dT at hq; simpa using hq
   obtain ⟨k, rfl⟩ := Int.eq_ofNat_of_zero_le hh.1
   have hk : k < 8 := by omega
   rw [show oL n D (k : Int) = D k by unfold oL; rw [if_pos hq]; rfl]
   have cL := h0.cL k hk
   have cH := h0.cH k hk
   have hg := bC
   obtain ⟨d0, d1⟩ := hD k
   have HJ := Hd (aCa (D k))
   have a0 := dQ (D k)
   have a1 := mF (D k)
   have b0 := kA d0
   have b1 := yC d1
   have hkn : (k : Int) < n := hh.2
   clear hq hh hD
   go_enter func46, ntmps46
   go_upto_region 1 with (fail)
   generalize (w.alloc (.cells (dV t n (fun i => lo (D i)) (fun i => hi (D i)) S).toArray 29)) = W at *
   go_wp2_with fail
   refine wp_region_quiet_below (by kernel_rfl) (by kernel_rfl) ?_
   repeat (go_big_quiet_step (first | (go_at_call 84; exact Calls.regrown_of ((aHE _ _ _ b0 b1 a0 a1).mono fun _ _ g => ⟨g.1, g.2 ▸ aH _⟩))))
   refine wpQuiet_nil ?_
   intro _ hw'
   obtain ⟨⟨dq, osq⟩, hw''⟩ := hw'
   subst hw''
   go_wp2_with fail
   go_ret
   exact ⟨bJ HJ.out, trG hb _ _⟩
theorem iV : (prog.info? 32).map (·.size) = some 7 := by kernel_rfl
def r7 (en lk ar : Bool) (cl tot si fa : Int) : List Value := [.bool en, .bool lk, .bool ar, .int .u32 cl, .int .u32 tot, .int .u64 si, .int .i64 fa]
def vl (t : Wd) : List Value := r7 t.en t.lk t.ar t.cl t.tot t.si t.fa
theorem aCx (en lk ar : Bool) (cl tot si fa : Int) : ∀ x ∈ r7 en lk ar cl tot si fa, x.oneCell' = true := by
 intro x h
 simp only [r7, List.mem_cons, List.not_mem_nil, or_false] at h
 exact rF
abbrev tV : TypeId := 32
def bX (w : World) (b : Nat) (t : Wd) : Prop := w.heap[b]? = some (.cells (vl t).toArray tV (0, 0))
section
variable {w w' : World} {b : Nat} {t : Wd}
theorem bX.lt (h : bX w b t) : b < w.heap.size := lt_of_block h
theorem bX.below (h : bX w b t) (hb : Below w.heap.size w w') : bX w' b t := aC hb h h.lt
theorem bX.off {S : Nat -> Prop} (h : bX w b t) (ho : aF S w w') (hs : ¬ S b) : bX w' b t := ho.at h hs
theorem bX.free (h : bX w b t) (j : Nat) : w.frozen? ⟨b, j, none⟩ = false := aK h j
theorem bX.c0 (h : bX w b t) : w.cell? ⟨b, 0, none⟩ = some (.bool t.en) := by rw [aA h 0]; rfl
theorem bX.c1 (h : bX w b t) : w.cell? ⟨b, 1, none⟩ = some (.bool t.lk) := by rw [aA h 1]; rfl
theorem bX.c2 (h : bX w b t) : w.cell? ⟨b, 2, none⟩ = some (.bool t.ar) := by rw [aA h 2]; rfl
theorem bX.c3 (h : bX w b t) : w.cell? ⟨b, 3, none⟩ = some (.int .u32 t.cl) := by rw [aA h 3]; rfl
theorem bX.c4 (h : bX w b t) : w.cell? ⟨b, 4, none⟩ = some (.int .u32 t.tot) := by rw [aA h 4]; rfl
theorem bX.c5 (h : bX w b t) : w.cell? ⟨b, 5, none⟩ = some (.int .u64 t.si) := by rw [aA h 5]; rfl
theorem bX.c6 (h : bX w b t) : w.cell? ⟨b, 6, none⟩ = some (.int .i64 t.fa) := by rw [aA h 6]; rfl
theorem bX.set (h : bX w b t) (j : Nat) (x : Value) {s : Wd} (he : (vl t).set j x = vl s) : bX (w.setCell ⟨b, j, none⟩ x) b s := by
 unfold bX; rw [aR h, <- he]; simp
theorem bX.s0 (h : bX w b t) (x : Bool) : bX (w.setCell ⟨b, 0, none⟩ (.bool x)) b { t with en := x } := h.set _ _ rfl
theorem bX.s1 (h : bX w b t) (x : Bool) : bX (w.setCell ⟨b, 1, none⟩ (.bool x)) b { t with lk := x } := h.set _ _ rfl
theorem bX.s2 (h : bX w b t) (x : Bool) : bX (w.setCell ⟨b, 2, none⟩ (.bool x)) b { t with ar := x } := h.set _ _ rfl
theorem bX.s3 (h : bX w b t) (x : Int) : bX (w.setCell ⟨b, 3, none⟩ (.int .u32 x)) b { t with cl := x } := h.set _ _ rfl
theorem bX.s4 (h : bX w b t) (x : Int) : bX (w.setCell ⟨b, 4, none⟩ (.int .u32 x)) b { t with tot := x } := h.set _ _ rfl
theorem bX.s5 (h : bX w b t) (x : Int) : bX (w.setCell ⟨b, 5, none⟩ (.int .u64 x)) b { t with si := x } := h.set _ _ rfl
theorem bX.s6 (h : bX w b t) (x : Int) : bX (w.setCell ⟨b, 6, none⟩ (.int .i64 x)) b { t with fa := x } := h.set _ _ rfl
theorem bX.other (h : bX w b t) (k j : Nat) (x : Value) (hne : b ≠ k) : bX (w.setCell ⟨k, j, none⟩ x) b t := aV h k j x hne
theorem bX.row {old : Array Value} (h : w.heap[b]? = some (.cells old tV (0, 0))) (t : Wd) : bX (w.setRow b (vl t).toArray) b t := aY _ h
theorem bX.elseRow (h : bX w b t) (g : Nat) (cs : Array Value) (hne : b ≠ g) : bX (w.setRow g cs) b t := eQ g cs h hne
theorem bX.grown (h : bX w b t) : ∀ w', (∃ p : Regrown, w' = grow (redrawn w p.d) p.os) -> bX w' b t := bZ h
end
section
variable {ops : Array Oper} {rest : List Oper} {o : Oper} {a : Act} {w : World} {Q : Exit -> Act -> World -> Prop}
theorem bW (hgd : o.guard = none) (x : Operand) (ho : o.op = .load 32 x) {b : Nat} (hx : a.eval x = .pointer (some ⟨b, 0, none⟩)) {t : Wd} (hg : bX w b t)
 (h : wpList prog ops Q rest (a.put o.dst (.agg (vl t).toArray)) w) : wpList prog ops Q (o :: rest) a w :=
 aN hgd _ x ho b 0 hx _ (vl t) hg underlying32 rfl iV (aL _) h
theorem dW (hgd : o.guard = none) (x y : Operand) (ho : o.op = .store 32 x y) {b : Nat} (hx : a.eval x = .pointer (some ⟨b, 0, none⟩)) {t : Wd} (hy : a.eval y = .agg (vl t).toArray) {t' : Wd} (hg : bX w b t')
 (h : wpList prog ops Q rest (a.put o.dst undef) (w.setRow b (vl t).toArray)) : wpList prog ops Q (o :: rest) a w := by
 refine aJ hgd _ x y ho b 0 hx (vl t) hy hg iV (by simp [vl, r7]) (aCx _ _ _ _ _ _ _) ?_
 rw [aW _ _ (by simp [vl, r7])]
 exact h
theorem aMg {C : World -> Prop} {K : Act -> Prop} (x : Operand) (ho : o.op = .load 32 x) {b : Nat} (hx : a.eval x = .pointer (some ⟨b, 0, none⟩)) {t : Wd} (hg : ∀ w, C w -> bX w b t)
 (h : K (a.put o.dst (.agg (vl t).toArray))) : o.quiet prog a C K :=
 bD _ x ho b 0 hx _ (vl t) (fun w hw => hg w hw) underlying32 rfl iV (aL _) h
end
theorem qH {fn : Func} {p q : Tmp} (h : fn.results = #[.cell p 32, .tmp q]) (tmps : Array Value) (w : World) {b : Nat} {t : Wd} (y : Value) (hp : tmps[p]? = some (.pointer (some ⟨b, 0, none⟩))) (hq : tmps[q]? = some y) (hg : bX w b t) :
 (results fn tmps).run prog w = .ok (.tuple #[.agg (vl t).toArray, y]) w :=
 bE h tmps w b 0 _ (vl t) y hp hq hg underlying32 rfl iV (aL _)
def zV : Obj := .cells (vl wz).toArray tV (0, 0)
theorem fX : Obj.cells #[.bool false, .bool false, .bool false, .int .u32 0, .int .u32 0, .int .u64 0, .int .i64 0] 32 (0, 0) = zV := rfl
def oV (t : Wd) : Obj := .cells (vl t).toArray tV (0, 0)
theorem eH (t : Wd) : Obj.cells (vl t).toArray 32 (0, 0) = oV t := rfl
theorem iR9 : (prog.info? 35).map (·.size) = some 35 := by kernel_rfl
def sl (f : Nat -> Bool) (la ct : Int) (qs : Bool) : List Value := bl f 32 ++ [.int .i64 la, .int .u32 ct, .bool qs]
theorem pJ (f : Nat -> Bool) (la ct : Int) (qs : Bool) : (sl f la ct qs).length = 35 := by unfold sl; simp [bI]
theorem aC9 (f : Nat -> Bool) (la ct : Int) (qs : Bool) : ∀ v ∈ sl f la ct qs, v.oneCell' = true := by
 intro v h
 unfold sl at h
 rcases List.mem_append.1 h with h | h
 . exact rO _ _ v h
 . simp only [List.mem_cons, List.not_mem_nil, or_false] at h
   rcases h with rfl | rfl | rfl <;> rfl
theorem aM0 (f : Nat -> Bool) (la ct : Int) (qs : Bool) (i : Nat) (h : i < 32) : (sl f la ct qs)[i]? = some (.bool (f i)) := by
 unfold sl; rw [List.getElem?_append_left (by rw [bI]; exact h), rN _ _ _ h]
theorem rH {P : Prop} (h : P := by
 unfold sl; rw [List.getElem?_append_right (by rw [bI]; omega), bI]; rfl
 ) : P := h
theorem aO4 (f : Nat -> Bool) (la ct : Int) (qs : Bool) : (sl f la ct qs)[32]? = some (.int .i64 la) := by
 exact rH
theorem aO5 (f : Nat -> Bool) (la ct : Int) (qs : Bool) : (sl f la ct qs)[33]? = some (.int .u32 ct) := by
 exact rH
theorem aKn (f : Nat -> Bool) (la ct : Int) (qs : Bool) : (sl f la ct qs)[34]? = some (.bool qs) := by
 exact rH
theorem aJJ (f : Nat -> Bool) (la ct : Int) (qs : Bool) : eM (sl f la ct qs).toArray 0 (bl f 32) := lG _ _
theorem aM4 (f : Nat -> Bool) (la ct : Int) (qs : Bool) (i : Nat) (b : Bool) (h : i < 32) : (sl f la ct qs).set i (.bool b) = sl (fun j => if j = i then b else f j) la ct qs := by
 unfold sl; rw [List.set_append_left _ _ (by rw [bI]; exact h), aCN]
theorem rC {P : Prop} (h : P := by
 unfold sl; rw [List.set_append_right _ _ (by rw [bI]; omega), bI]; rfl
 ) : P := h
theorem aM1 (f : Nat -> Bool) (la ct : Int) (qs : Bool) (x : Int) : (sl f la ct qs).set 32 (.int .i64 x) = sl f x ct qs := by
 exact rC
theorem aM2 (f : Nat -> Bool) (la ct : Int) (qs : Bool) (x : Int) : (sl f la ct qs).set 33 (.int .u32 x) = sl f la x qs := by
 exact rC
theorem aM3 (f : Nat -> Bool) (la ct : Int) (qs : Bool) (x : Bool) : (sl f la ct qs).set 34 (.bool x) = sl f la ct x := by
 exact rC
abbrev tR9 : TypeId := 35
def dS (w : World) (b : Nat) (f : Nat -> Bool) (la ct : Int) (qs : Bool) : Prop := w.heap[b]? = some (.cells (sl f la ct qs).toArray tR9 (0, 0))
section
variable {w w' : World} {b : Nat} {f : Nat -> Bool} {la ct : Int} {qs : Bool}
theorem dS.lt (h : dS w b f la ct qs) : b < w.heap.size := lt_of_block h
theorem dS.below (h : dS w b f la ct qs) (hb : Below w.heap.size w w') : dS w' b f la ct qs := aC hb h h.lt
theorem dS.off {S : Nat -> Prop} (h : dS w b f la ct qs) (ho : aF S w w') (hs : ¬ S b) : dS w' b f la ct qs := ho.at h hs
theorem dS.free (h : dS w b f la ct qs) (j : Nat) : w.frozen? ⟨b, j, none⟩ = false := aK h j
theorem dS.ci (h : dS w b f la ct qs) (i : Nat) (hi : i < 32) : w.cell? ⟨b, i, none⟩ = some (.bool (f i)) := by rw [aA h i]; simpa using aM0 f la ct qs i hi
theorem dS.c32 (h : dS w b f la ct qs) : w.cell? ⟨b, 32, none⟩ = some (.int .i64 la) := by rw [aA h 32]; simpa using aO4 f la ct qs
theorem dS.c33 (h : dS w b f la ct qs) : w.cell? ⟨b, 33, none⟩ = some (.int .u32 ct) := by rw [aA h 33]; simpa using aO5 f la ct qs
theorem dS.c34 (h : dS w b f la ct qs) : w.cell? ⟨b, 34, none⟩ = some (.bool qs) := by rw [aA h 34]; simpa using aKn f la ct qs
theorem dS.si (h : dS w b f la ct qs) (i : Nat) (x : Bool) (hi : i < 32) : dS (w.setCell ⟨b, i, none⟩ (.bool x)) b (fun j => if j = i then x else f j) la ct qs := by
 unfold dS; rw [aR h, gL, aM4 _ _ _ _ _ _ hi]
theorem dS.s32 (h : dS w b f la ct qs) (x : Int) : dS (w.setCell ⟨b, 32, none⟩ (.int .i64 x)) b f x ct qs := by unfold dS; rw [aR h, gL, aM1]
theorem dS.s33 (h : dS w b f la ct qs) (x : Int) : dS (w.setCell ⟨b, 33, none⟩ (.int .u32 x)) b f la x qs := by unfold dS; rw [aR h, gL, aM2]
theorem dS.s34 (h : dS w b f la ct qs) (x : Bool) : dS (w.setCell ⟨b, 34, none⟩ (.bool x)) b f la ct x := by unfold dS; rw [aR h, gL, aM3]
theorem dS.congr {f' : Nat -> Bool} (h : dS w b f la ct qs) (hf : ∀ i, i < 32 -> f i = f' i) : dS w b f' la ct qs := by
 unfold dS sl at *
 rw [kF f' f 32 fun i hi => (hf i hi).symm]; exact h
theorem dS.other (h : dS w b f la ct qs) (k j : Nat) (x : Value) (hne : b ≠ k) : dS (w.setCell ⟨k, j, none⟩ x) b f la ct qs := aV h k j x hne
theorem dS.row {old : Array Value} (h : w.heap[b]? = some (.cells old tR9 (0, 0))) (f : Nat -> Bool) (la ct : Int) (qs : Bool) : dS (w.setRow b (sl f la ct qs).toArray) b f la ct qs := aY _ h
theorem dS.elseRow (h : dS w b f la ct qs) (g : Nat) (cs : Array Value) (hne : b ≠ g) : dS (w.setRow g cs) b f la ct qs := eQ g cs h hne
theorem dS.alloc (h : dS w b f la ct qs) (o : Obj) : dS (w.alloc o) b f la ct qs := (aX w o h.lt).trans h
theorem dS.grown (h : dS w b f la ct qs) : ∀ w', (∃ p : Regrown, w' = grow (redrawn w p.d) p.os) -> dS w' b f la ct qs := bZ h
end
section
variable {ops : Array Oper} {rest : List Oper} {o : Oper} {a : Act} {w : World} {Q : Exit -> Act -> World -> Prop}
theorem mH (hgd : o.guard = none) (x : Operand) (ho : o.op = .load 35 x) {b : Nat} (hx : a.eval x = .pointer (some ⟨b, 0, none⟩)) {f : Nat -> Bool} {la ct : Int} {qs : Bool} (hg : dS w b f la ct qs)
 (h : wpList prog ops Q rest (a.put o.dst (.agg (sl f la ct qs).toArray)) w) : wpList prog ops Q (o :: rest) a w :=
 aN hgd _ x ho b 0 hx _ (sl f la ct qs) hg underlying35 rfl (by rw [pJ]; exact iR9) (aL _) h
theorem nG (hgd : o.guard = none) (x y : Operand) (ho : o.op = .store 35 x y) {b : Nat} (hx : a.eval x = .pointer (some ⟨b, 0, none⟩)) {f : Nat -> Bool} {la ct : Int} {qs : Bool} (hy : a.eval y = .agg (sl f la ct qs).toArray) {f' : Nat -> Bool} {la' ct' : Int} {qs' : Bool} (hg : dS w b f' la' ct' qs')
 (h : wpList prog ops Q rest (a.put o.dst undef) (w.setRow b (sl f la ct qs).toArray)) : wpList prog ops Q (o :: rest) a w := by
 refine aJ hgd _ x y ho b 0 hx (sl f la ct qs) hy hg (by rw [pJ]; exact iR9) (by simp [pJ]) (aC9 _ _ _ _) ?_
 rw [aW _ _ (by simp [pJ])]
 exact h
end
theorem aIp {ops : Array Oper} {rest : List Oper} {o : Oper} {a : Act} {w : World} {Q : Exit -> Act -> World -> Prop} (hgd : o.guard = none) (x : Operand) (ho : o.op = .load 33 x) {b : Nat} (hx : a.eval x = .pointer (some ⟨b, 0, none⟩)) {f : Nat -> Bool} {la ct : Int} {qs : Bool} (hg : dS w b f la ct qs)
 (h : wpList prog ops Q rest (a.put o.dst (.agg (bl f 32).toArray)) w) : wpList prog ops Q (o :: rest) a w :=
 aN hgd _ x ho b 0 hx _ (bl f 32) hg underlying33 rfl (by rw [bI]; exact i25) (aJJ _ _ _ _) h
theorem aP7 {fn : Func} {p : Tmp} (h : fn.results = #[.cell p 35]) (tmps : Array Value) (w : World) {b : Nat} {f : Nat -> Bool} {la ct : Int} {qs : Bool} (hp : tmps[p]? = some (.pointer (some ⟨b, 0, none⟩))) (hg : dS w b f la ct qs) :
 (results fn tmps).run prog w = .ok (.agg (sl f la ct qs).toArray) w :=
 aS h tmps w b 0 _ (sl f la ct qs) hp hg underlying35 rfl (by rw [pJ]; exact iR9) (aL _)
theorem vA {fn : Func} {p q : Tmp} (h : fn.results = #[.cell p 35, .tmp q]) (tmps : Array Value) (w : World) {b : Nat} {f : Nat -> Bool} {la ct : Int} {qs : Bool} (y : Value) (hp : tmps[p]? = some (.pointer (some ⟨b, 0, none⟩))) (hq : tmps[q]? = some y) (hg : dS w b f la ct qs) :
 (results fn tmps).run prog w = .ok (.tuple #[.agg (sl f la ct qs).toArray, y]) w :=
 bE h tmps w b 0 _ (sl f la ct qs) y hp hq hg underlying35 rfl (by rw [pJ]; exact iR9) (aL _)
def oU (f : Nat -> Bool) (la ct : Int) (qs : Bool) : Obj := .cells (sl f la ct qs).toArray tR9 (0, 0)
theorem iJ (f : Nat -> Bool) (la ct : Int) (qs : Bool) : Obj.cells (sl f la ct qs).toArray 35 (0, 0) = oU f la ct qs := rfl
def zU : Obj := oU (fun _ => false) 0 0 false
theorem kK : Obj.cells #[.bool false, .bool false, .bool false, .bool false, .bool false, .bool false, .bool false, .bool false, .bool false, .bool false, .bool false, .bool false, .bool false, .bool false, .bool false, .bool false, .bool false, .bool false, .bool false, .bool false, .bool false, .bool false, .bool false, .bool false, .bool false, .bool false, .bool false, .bool false, .bool false, .bool false, .bool false, .bool false, .int .i64 0, .int .u32 0, .bool false] 35 (0, 0) = zU := rfl
theorem aKq (w : World) (f : Nat -> Bool) (la ct : Int) (qs : Bool) : dS (w.alloc (oU f la ct qs)) w.heap.size f la ct qs := aD w _
def ul (t : Rs) : List Value := sl (aO t.ca) t.la t.ct t.qs
theorem kR (t : Tm) : (rl t).length = 8 := rfl
theorem aC2 (t : Tm) : ∀ x ∈ rl t, x.oneCell' = true := aHC _ _ _ _ _ _ _ _
def sQ (w : World) (g o : Nat) (s : Tm) : Prop := ∃ cur t fr, w.heap[g]? = some (.cells cur t fr) /\ eM cur o (rl s)
theorem sQ.cell {w : World} {g o : Nat} {s : Tm} (h : sQ w g o s) (j : Nat) (v : Value) (hj : (rl s)[j]? = some v) : w.cell? ⟨g, o + j, none⟩ = some v := by
 obtain ⟨cur, t, fr, h1, h2⟩ := h
 rw [cell_of_row w g (o + j) cur t fr h1]
 exact h2 j v hj
theorem sQ.below {w w' : World} {g o : Nat} {s : Tm} (h : sQ w g o s) (hb : Below w.heap.size w w') : sQ w' g o s := by
 obtain ⟨cur, t, fr, h1, h2⟩ := h
 exact ⟨cur, t, fr, aC hb h1 (lt_of_block h1), h2⟩
theorem sQ.lt {w : World} {g o : Nat} {s : Tm} (h : sQ w g o s) : g < w.heap.size := by
 obtain ⟨cur, t, fr, h1, h2⟩ := h
 exact lt_of_block h1
structure eD (w : World) (g n cap : Nat) (t : Nat -> Tm) : Prop where
 row : ∃ cur, w.heap[g]? = some (.cells cur tM (0, 0)) /\ cur.size = cap * 8 /\ ∀ i, i < n -> eM cur (i * 8) (rl (t i))
 nc : n <= cap
 cm : cap <= maxLen
section
variable {w w' : World} {g n cap B : Nat} {t s : Nat -> Tm}
theorem eD.lt (h : eD w g n cap t) : g < w.heap.size := by obtain ⟨cur, h1, _⟩ := h.row; exact lt_of_block h1
theorem eD.below (h : eD w g n cap t) (hb : Below w.heap.size w w') : eD w' g n cap t := by
 obtain ⟨cur, h1, h2, h3⟩ := h.row
 exact ⟨⟨cur, aC hb h1 h.lt, h2, h3⟩, h.nc, h.cm⟩
theorem eD.off {S : Nat -> Prop} (h : eD w g n cap t) (ho : aF S w w') (hs : ¬ S g) : eD w' g n cap t := by
 obtain ⟨cur, h1, h2, h3⟩ := h.row
 exact ⟨⟨cur, ho.at h1 hs, h2, h3⟩, h.nc, h.cm⟩
theorem eD.congr (h : eD w g n cap t) (hs : ∀ i, i < n -> t i = s i) : eD w g n cap s := by
 obtain ⟨cur, h1, h2, h3⟩ := h.row
 exact ⟨⟨cur, h1, h2, fun i hi => by rw [<- hs i hi]; exact h3 i hi⟩, h.nc, h.cm⟩
theorem eD.at (h : eD w g n cap t) {i : Nat} (hi : i < n) : sQ w g (i * 8) (t i) := by
 obtain ⟨cur, h1, h2, h3⟩ := h.row
 exact ⟨cur, _, _, h1, h3 i hi⟩
theorem eD.free (h : eD w g n cap t) (j : Nat) : w.frozen? ⟨g, j, none⟩ = false := by
 obtain ⟨cur, h1, _⟩ := h.row
 exact aK h1 j
theorem eD.c (h : eD w g n cap t) {i : Nat} (hi : i < n) (j : Nat) (v : Value) (hj : (rl (t i))[j]? = some v) : w.cell? ⟨g, i * 8 + j, none⟩ = some v := (h.at hi).cell j v hj
theorem eD.ne {b : Nat} {x : Array Value} {T : TypeId} {f : Nat × Nat} (h : eD w g n cap t) (hb : w.heap[b]? = some (.cells x T f)) (hne : (T == tM) = false) : g ≠ b := by
 obtain ⟨cur, h1, _⟩ := h.row
 rintro rfl
 rw [h1] at hb
 cases hb
 simp at hne
end
def jE (w : World) (B : Nat) (v : Value) (k : Nat) (t : Nat -> Tm) : Prop := ∃ xs, w.ownsRow B tM 8 v k xs /\ ∀ i, i < k -> ∀ j u, (rl (t i))[j]? = some u -> xs[i * 8 + j]? = some u
theorem aIv (w : World) (B : Nat) (t : Nat -> Tm) : jE w B (.slice none 0 0) 0 t := ⟨[], World.ownsRow_nil w B tM 8, fun i hi => by omega⟩
theorem aG2 {w w' : World} {B : Nat} {e : TypeId} {z : Nat} {v : Value} {n : Nat} {xs : List Value} (h : w.ownsRow B e z v n xs) (hb : Below w.heap.size w w') : w'.ownsRow B e z v n xs := by
 refine ⟨h.1, ?_⟩
 rcases h.2 with h | ⟨g, cap, cur, h1, h2, h3, h4⟩
 . exact .inl h
 . exact .inr ⟨g, cap, cur, h1, h2, aC hb h3 (lt_of_block h3), h4⟩
theorem jE.below {w w' : World} {B : Nat} {v : Value} {k : Nat} {t : Nat -> Tm} (h : jE w B v k t) (hb : Below w.heap.size w w') : jE w' B v k t := by
 obtain ⟨xs, h1, h2⟩ := h
 exact ⟨xs, aG2 h1 hb, h2⟩
theorem jE.congr {w : World} {B : Nat} {v : Value} {k : Nat} {t s : Nat -> Tm} (h : jE w B v k t) (hs : ∀ i, i < k -> t i = s i) : jE w B v k s := by
 obtain ⟨xs, h1, h2⟩ := h
 exact ⟨xs, h1, fun i hi j u hu => h2 i hi j u (by rw [hs i hi]; exact hu)⟩
theorem aG1 {w' : World} {B : Nat} {v' : Value} {k : Nat} {t : Nat -> Tm} {xs : List Value} (hl : xs.length = k * 8) (h2 : ∀ i, i < k -> ∀ j u, (rl (t i))[j]? = some u -> xs[i * 8 + j]? = some u) {x : Tm} (hx : t k = x)
 (h1 : w'.ownsRow B tM 8 v' (k + 1) (xs ++ rl x)) : jE w' B v' (k + 1) t := by
 subst hx
 refine ⟨_, h1, fun i hi j u hu => ?_⟩
 have hj : j < 8 := by have := (List.getElem?_eq_some_iff.1 hu).1; rw [kR] at this; exact this
 by_cases e : i = k
 . subst e
   rw [List.getElem?_append_right (by omega), hl, show i * 8 + j - i * 8 = j by omega]
   exact hu
 . rw [List.getElem?_append_left (by rw [hl]; omega)]
   exact h2 i (by omega) j u hu
theorem jE.rw {w : World} {B : Nat} {v : Value} {k : Nat} {t : Nat -> Tm} (h : jE w B v k t) (h0 : 0 < k) : ∃ g cap, v = .slice (some ⟨g, 0, none⟩) k cap /\ B <= g /\ eD w g k cap t := by
 obtain ⟨xs, ⟨hl, ho⟩, h2⟩ := h
 rcases ho with ⟨_, hk⟩ | ⟨g, cap, cur, rfl, hB, hg, hkc, hcm, hcs, htk⟩
 . omega
 . refine ⟨g, cap, rfl, hB, ⟨⟨cur, hg, hcs, fun i hi j u hu => ?_⟩, hkc, hcm⟩⟩
   have h3 := h2 i hi j u hu
   rw [<- htk, List.getElem?_take] at h3
   split at h3
   . simpa using h3
   . cases h3
theorem wC {P : Prop} (h : P := by
 have hj : j < 8 := by have := (List.getElem?_eq_some_iff.1 hu).1; rw [kR] at this; exact this
 rw [List.getElem?_take, if_pos (by omega)]
 simpa using h3 i hi j u hu
 ) : P := h
theorem eD.out {w : World} {g n cap B : Nat} {t : Nat -> Tm} (h : eD w g n cap t) (hB : B <= g) : jE w B (.slice (some ⟨g, 0, none⟩) n cap) n t := by
 obtain ⟨cur, h1, h2, h3⟩ := h.row
 have hnc := h.nc
 refine ⟨cur.toList.take (n * 8), ⟨by simp; omega, .inr ⟨g, cap, cur, rfl, hB, h1, hnc, h.cm, h2, rfl⟩⟩, fun i hi j u hu => ?_⟩
 exact wC
theorem aF.ofOwn {w w' : World} {v : Value} (h : w.grownBy w' v.ownBlock) : aF (fun k => v.ownBlock = some k) w w' := aF.ofGrown h fun k e => e
theorem jE.block {w : World} {B : Nat} {v : Value} {k : Nat} {t : Nat -> Tm} (h : jE w B v k t) {b : Nat} (hb : v.ownBlock = some b) : B <= b := by
 obtain ⟨xs, h1, _⟩ := h
 exact (h1.lt b hb).1
section
variable {ops : Array Oper} {rest : List Oper} {o : Oper} {a : Act} {w : World} {Q : Exit -> Act -> World -> Prop}
theorem aDg (hgd : o.guard = none) (x : Operand) (ho : o.op = .load 220 x) {g off : Nat} (hx : a.eval x = .pointer (some ⟨g, off, none⟩)) {t : Tm} (hg : sQ w g off t)
 (h : wpList prog ops Q rest (a.put o.dst (.agg (rl t).toArray)) w) : wpList prog ops Q (o :: rest) a w := by
 obtain ⟨cur, ty, fr, h1, h2⟩ := hg
 exact aN hgd _ x ho g off hx _ (rl t) h1 underlying220 rfl iM h2 h
theorem aGb (x : Operand) (ho : o.op = .load 220 x) (hw : Region.wanted o (yielded ops a.tmps) = true) {g off : Nat} (hx : a.eval x = .pointer (some ⟨g, off, none⟩)) {t : Tm} (hg : sQ w g off t)
 (h : wpList prog ops Q rest (a.put o.dst (.agg (rl t).toArray)) w) : wpList prog ops Q (o :: rest) a w := by
 obtain ⟨cur, ty, fr, h1, h2⟩ := hg
 exact dC _ x ho hw g off hx _ (rl t) h1 underlying220 rfl iM h2 h
end
theorem aDX : (prog.info? 220).map (fun i => (i.zero, i.size, i.bytes)) = some (some (.agg (rl tz).toArray), 8, 24) := by kernel_rfl
theorem aOI (w : World) (s : Tm) : sQ (w.alloc (oM s)) w.heap.size 0 s := ⟨_, _, _, aD w (oM s), aL _⟩
section
variable {ops : Array Oper} {rest : List Oper} {o : Oper} {a : Act} {w : World} {Q : Exit -> Act -> World -> Prop}
theorem aLB (hgd : o.guard = none) (x : Operand) (ho : o.op = .buildSlice 30 1 #[(0, x)]) {s : Tm} (hx : a.eval x = .agg (rl s).toArray)
 (h : wpList prog ops Q rest (a.put o.dst (.slice (some ⟨w.heap.size, 0, none⟩) 1 1)) (w.alloc (oM s))) : wpList prog ops Q (o :: rest) a w := by
 obtain ⟨i0, hi, hz0, hz1, hz2⟩ := info_parts aDX
 refine wpList_buildSlice hgd _ 220 1 #[(0, x)] ho (rl s).toArray i0 _ underlying30 hi hz0 (by rw [hz1]; decide) (by rw [hz1]; decide) ?_ h
 rw [hz1]
 simp only [List.map_toArray, List.map_cons, List.map_nil, hx]
 rw [show Array.range (1 * 8) = #[0, 1, 2, 3, 4, 5, 6, 7] by decide]
 simp [Instr.fill, Value.cells, rl, r8]
theorem aII (hgd : o.guard = none) (s x : Operand) (ho : o.op = .call { callee := .builtin .append, args := #[s, x], argTypes := #[30, 30] })
 {B k g : Nat} {v : Value} {t : Nat -> Tm} {y : Tm} (hs : a.eval s = v) (hO : jE w B v k t) (hx : a.eval x = .slice (some ⟨g, 0, none⟩) 1 1) (hy : sQ w g 0 y) (hyt : t k = y) (hk : k < 8) (hB : B <= w.heap.size)
 (h : ∀ v' w', jE w' B v' (k + 1) t -> aF (fun b => v.ownBlock = some b) w w' -> wpList prog ops Q rest (a.put o.dst v') w') : wpList prog ops Q (o :: rest) a w := by
 obtain ⟨i0, hi, hz0, hz1, hz2⟩ := info_parts aDX
 obtain ⟨xs, h1, h2⟩ := hO
 refine wpList_append_own w hgd s x _ ho B 220 i0 _ 8 24 underlying30 hi hz0 hz1 hz2 rfl (by decide) v k xs hs h1 ⟨g, 0, none⟩ 1 1 (rl y) hx rfl (fun j u hu => ?_) (aC2 y) (by unfold maxLen; omega) (by omega) hB fun v' w' h3 h4 _ => ?_
 . have := hy.cell j u hu
   simpa [Addr.add_lit] using this
 . exact h v' w' (aG1 h1.1 h2 hyt h3) (aF.ofOwn h4)
theorem aB8 (hgd : o.guard = none) (s x : Operand) (ho : o.op = .call { callee := .builtin .append, args := #[s, x], argTypes := #[30, 30] })
 {B g n cap : Nat} {v : Value} {t : Nat -> Tm} (hs : a.eval s = v) (hO : w.ownsRow B 220 8 v 0 []) (hx : a.eval x = .slice (some ⟨g, 0, none⟩) n cap) (hR : eD w g n cap t) (hn : n <= 8) (hB : B <= w.heap.size)
 (h : ∀ v' w', jE w' B v' n t -> aF (fun b => v.ownBlock = some b) w w' -> wpList prog ops Q rest (a.put o.dst v') w') : wpList prog ops Q (o :: rest) a w := by
 obtain ⟨i0, hi, hz0, hz1, hz2⟩ := info_parts aDX
 obtain ⟨cur, h1, h2, h3⟩ := hR.row
 have hnc := hR.nc
 have key : ∀ (j : Nat) (u : Value), (cur.toList.take (n * 8))[j]? = some u -> cur[j]? = some u /\ u.oneCell' = true := by
  intro j u hu
  rw [List.getElem?_take] at hu
  split at hu
  . rename_i hj
    have hu' : cur[j]? = some u := by simpa using hu
    refine ⟨hu', ?_⟩
    have hj8 : j % 8 < (rl (t (j / 8))).length := by rw [kR]; omega
    have h4 := h3 (j / 8) (by omega) (j % 8) _ (List.getElem?_eq_getElem hj8)
    rw [show j / 8 * 8 + j % 8 = j by omega, hu'] at h4
    cases h4
    exact aC2 _ _ (List.getElem_mem hj8)
  . cases hu
 refine wpList_append_own w hgd s x _ ho B 220 i0 _ 8 24 underlying30 hi hz0 hz1 hz2 rfl (by decide) v 0 [] hs hO ⟨g, 0, none⟩ n cap (cur.toList.take (n * 8)) hx (by simp; omega) (fun j u hu => ?_) (fun u hu => ?_) (by unfold maxLen; omega) (by omega) hB fun v' w' h5 h6 _ => ?_
 . rw [Addr.add_lit, Nat.zero_add, cell_of_row w g j cur _ _ h1]
   exact (key j u hu).1
 . obtain ⟨j, hj⟩ := List.mem_iff_getElem?.1 hu
   exact (key j u hj).2
 . refine h v' w' ⟨_, by simpa using h5, fun i hi j u hu => ?_⟩ (aF.ofOwn h6)
   exact wC
theorem aM5 (hgd : o.guard = none) (x y : Operand) (ho : o.op = .store 220 x y) {g n cap k : Nat} {t : Nat -> Tm} {s : Tm} (hx : a.eval x = .pointer (some ⟨g, k * 8, none⟩)) (hy : a.eval y = .agg (rl s).toArray) (hR : eD w g n cap t) (hk : k < n)
 (h : ∀ w', eD w' g n cap (oO t k s) -> aF (· = g) w w' -> wpList prog ops Q rest (a.put o.dst undef) w') : wpList prog ops Q (o :: rest) a w := by
 obtain ⟨cur, h1, h2, h3⟩ := hR.row
 have hnc := hR.nc
 refine aJ hgd _ x y ho g (k * 8) hx (rl s) hy h1 iM (by rw [kR]; omega) (aC2 s) (h _ ?_ ?_)
 . refine ⟨⟨bR cur (k * 8) (rl s), aY _ h1, ?_, fun i hi j u hu => ?_⟩, hR.nc, hR.cm⟩
   . simp [bR, kR]; omega
   . have hj : j < 8 := by have := (List.getElem?_eq_some_iff.1 hu).1; rw [kR] at this; exact this
     unfold bR
     have hlen : (cur.toList.take (k * 8)).length = k * 8 := by simp; omega
     by_cases e : i = k
     . subst e
       rw [oH] at hu
       rw [List.getElem?_toArray, List.append_assoc, List.getElem?_append_right (by omega), hlen, show i * 8 + j - i * 8 = j by omega, List.getElem?_append_left (by rw [kR]; exact hj)]
       exact hu
     . rw [oI _ _ e] at hu
       have h4 := h3 i hi j u hu
       rw [List.getElem?_toArray, List.append_assoc]
       by_cases c : i < k
       . rw [List.getElem?_append_left (by omega), List.getElem?_take, if_pos (by omega)]
         simpa using h4
       . rw [List.getElem?_append_right (by omega), hlen, List.getElem?_append_right (by rw [kR]; omega), kR, List.getElem?_drop, show k * 8 + 8 + (i * 8 + j - k * 8 - 8) = i * 8 + j by omega]
         simpa using h4
 . exact ⟨rfl, rfl, rfl, by simp, fun b _ hs => setRow_other w g b _ hs⟩
end
end Go.Proofs.YtaohacadochldaaGreat.B
