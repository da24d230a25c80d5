/- A part of the proof of a law of layer 12: bd. -/
import Derived.Test.YtpojmmgokgamgaaGreatZYbc
import Derived.OwnWalk
set_option linter.unusedVariables false
set_option linter.unusedSimpArgs false
set_option maxHeartbeats 12800000
set_option maxRecDepth 100000
namespace Go.Proofs.YtpojmmgokgamgaaGreat.B
open Go.Proofs.Tryz
open Go.ChangeShapes Go.WideShapes Go.RowKit Go.Sort
def zC : Obj := .cells #[.int .u64 0, .int .u32 0, .int .u32 0, .int .u32 0, .int .u32 0, .int .u32 0, .int .u32 0, .int .u32 0, .int .u32 0, .int .u32 0, .int .u32 0, .int .u32 0, .int .u32 0, .int .u32 0, .int .u32 0, .int .u32 0, .int .u32 0, .int .u32 0, .int .u32 0, .int .u32 0, .int .u32 0, .int .u32 0, .int .u32 0, .int .u32 0, .int .u32 0, .int .i64 0] 40
theorem rJ : Obj.cells #[.int .u64 0, .int .u32 0, .int .u32 0, .int .u32 0, .int .u32 0, .int .u32 0, .int .u32 0, .int .u32 0, .int .u32 0, .int .u32 0, .int .u32 0, .int .u32 0, .int .u32 0, .int .u32 0, .int .u32 0, .int .u32 0, .int .u32 0, .int .u32 0, .int .u32 0, .int .u32 0, .int .u32 0, .int .u32 0, .int .u32 0, .int .u32 0, .int .u32 0, .int .i64 0] 40 = zC := rfl
theorem aBY (v t : Int) (n : Nat) (A B S : Nat -> Int) (w : World) (t0 : 0 <= t) (t1 : t < 18446744073709551616) (v0 : 0 <= v) (v1 : v < 18446744073709551616) :
 Calls prog 65 #[.agg (dL t n A B S).toArray, .int .u64 v] w fun e w' => e = .returned (.agg (dL (eC t v) n A B S).toArray) /\ Below w.heap.size w w' := by
 go_enter func65, ntmps65
 have h0 : bJ ((w.alloc (.cells (dL t n A B S).toArray 40)).alloc zC) w.heap.size t n A B S := bG w _ _
 have h1 : bJ ((w.alloc (.cells (dL t n A B S).toArray 40)).alloc zC) (w.heap.size + 1) 0 0 iH iH iH := bL w _ _
 have hb := aE (aE (aI w) (.cells (dL t n A B S).toArray 40)) zC
 go_upto_region 1 with (fail)
 rw [rJ]
 generalize ((w.alloc (.cells (dL t n A B S).toArray 40)).alloc zC) = W at *
 have c := h0.cT
 have f := h0.free 0
 have k0 := h0.setT (eC t v)
 have k1 := h1.other w.heap.size 0 (.int .u64 (eC t v)) (by omega)
 have hb2 := hb.setCell (p := ⟨w.heap.size, 0, none⟩) (Nat.le_refl _) (.int .u64 (eC t v))
 have K0 := Hd k0
 have K1 := Hd k1
 clear h0 h1 k0 k1
 go_wp2_with (first | (go_at_call 124; refine (aLp _ _ _ t0 t1 v0 v1).mono ?_; rintro e w' ⟨rfl, rfl⟩) | (refine lO rfl (.tmp 2) rfl rfl K0.out ?_) | (refine mI rfl (.tmp 4) (.tmp 10) rfl rfl rfl K1.out (by rw [List.size_toArray, dY]) ?_))
 exact bodyPost_ret (v := .agg (dL (eC t v) n A B S).toArray) (aKE results65 _ _ rfl (bJ.row K1.out)) rfl ⟨rfl, aB hb2 _ (by omega)⟩
def frs (c : Int) (A : Nat -> Int) (k : Nat) : Nat -> Int := fun i => if i < k then c else A i
theorem tW (c : Int) (A : Nat -> Int) : frs c A 0 = A := by funext i; simp [frs]
theorem tA (c : Int) (A : Nat -> Int) (k : Nat) : upd (frs c A k) k c = frs c A (k + 1) := by
 funext i; unfold upd frs
 exact pV
theorem yS (c : Int) (A : Nat -> Int) (i : Nat) (h : i < 8) : frs c A 8 i = c := by unfold frs; rw [if_pos h]
theorem aCr (t : Int) (n : Nat) (A B S : Nat -> Int) (w : World) :
 Calls prog 55 #[.agg (dL t n A B S).toArray] w fun e w' => e = .returned (.agg (fW t n nvD iH).toArray) /\ Below w.heap.size w w' := by
 go_enter func55, ntmps55
 have h0 : bJ ((w.alloc (.cells (dL t n A B S).toArray 40)).alloc zC) w.heap.size t n A B S := bG w _ _
 have h1 : bJ ((w.alloc (.cells (dL t n A B S).toArray 40)).alloc zC) (w.heap.size + 1) 0 0 iH iH iH := bL w _ _
 have hb := aE (aE (aI w) (.cells (dL t n A B S).toArray 40)) zC
 go_wp2_with fail
 rw [rJ]
 generalize ((w.alloc (.cells (dL t n A B S).toArray 40)).alloc zC) = W at *
 go_loopw [3] (fun i wr => ∃ k : Nat, k <= 8 /\ i = .int .i64 k /\ bJ wr w.heap.size t n (frs 4294967295 A k) (frs 4294967295 B k) (frs 0 S k) /\ bJ wr (w.heap.size + 1) 0 0 iH iH iH /\ Below w.heap.size w wr) (fun i _ => 8 - (intOf i).toNat)
 case atStart => exact ⟨0, by omega, rfl, by rw [tW, tW, tW]; exact h0, h1, hb⟩
 case round =>
  clear h0 h1 hb
  obtain ⟨k, hk, rfl, h0, h1, hb⟩ := hrel
  by_cases hlt : k < 8
  . have g1 := h0.setL k 4294967295 hlt
    have g2 := g1.setH k 4294967295 hlt
    have g3 := g2.setS k 0 hlt
    rw [tA, tA, tA] at g3
    have q := ((h1.other w.heap.size (1 + k) (.int .u32 4294967295) (by omega)).other w.heap.size (9 + k) (.int .u32 4294967295) (by omega)).other w.heap.size (17 + k) (.int .u32 0) (by omega)
    have b3 := ((hb.setCell (p := ⟨w.heap.size, 1 + k, none⟩) (Nat.le_refl _) (.int .u32 4294967295)).setCell (p := ⟨w.heap.size, 9 + k, none⟩) (Nat.le_refl _) (.int .u32 4294967295)).setCell (p := ⟨w.heap.size, 17 + k, none⟩) (Nat.le_refl _) (.int .u32 0)
    have G3 := Hd g3
    have c1 := h0.cL k hlt
    have f1 := h0.free (1 + k)
    have c2 := h0.cH k hlt
    have f2 := h0.free (9 + k)
    have c3 := h0.cS k hlt
    have f3 := h0.free (17 + k)
    clear g1 g2 g3 h0 h1
    go_wp2_with fail
    go_roundw
    case rel => exact ⟨k + 1, by omega, by go_num, G3.out, q, b3⟩
    case measure => simp [intOf]; omega
  . obtain rfl : k = 8 := by omega
    have e : dL t n (frs 4294967295 A 8) (frs 4294967295 B 8) (frs 0 S 8) = fW t n nvD iH := aEN (fun i hi => by rw [yS _ _ _ hi]; rfl) (fun i hi => by rw [yS _ _ _ hi]; rfl) (fun i hi => by rw [yS _ _ _ hi]; rfl)
    have E := Hd e
    clear e
    go_wp2_with (first | (refine lO rfl (.tmp 1) rfl rfl h0 ?_) | (refine mI rfl (.tmp 2) (.tmp 17) rfl rfl rfl h1 (by rw [List.size_toArray, dY]) ?_))
    exact bodyPost_ret (v := .agg (dL t n (frs 4294967295 A 8) (frs 4294967295 B 8) (frs 0 S 8)).toArray) (aKE results55 _ _ rfl (bJ.row h1)) rfl ⟨by rw [E.out], aB hb _ (by omega)⟩
theorem aJW (n : Nat) (w : World) :
 Calls prog 28 #[.int .i64 n] w fun e w' => e = .returned (.agg (fW 0 n nvD iH).toArray) /\ Below w.heap.size w w' := by
 go_enter func28, ntmps28
 have h0 : bJ (w.alloc zC) w.heap.size 0 0 iH iH iH := aD w _
 have hb := aE (aI w) zC
 go_wp2_with fail
 rw [rJ]
 generalize w.alloc zC = W at *
 refine (aCr 0 n iH iH iH W).mono ?_
 rintro e w1 ⟨rfl, hb1⟩
 have h1 := h0.below hb1
 have hb2 := tr hb hb1
 clear h0 hb hb1
 unfold fW
 go_wp2_with (refine mI rfl (.tmp 2) (.tmp 5) rfl rfl rfl h1 (by rw [List.size_toArray, dY]) ?_)
 exact bodyPost_ret (v := .agg (fW 0 n nvD iH).toArray) (aKE results28 _ _ rfl (bJ.row h1)) rfl ⟨rfl, aB hb2 _ (Nat.le_refl _)⟩
theorem xA (h t : Int) (n : Nat) (D S : Nat -> Int) (w : World) (n8 : n <= 8) (hD : xZ D) :
 Calls prog 77 #[.agg (fW t n D S).toArray, .int .i64 h] w fun e w' => e = .returned (.int .u64 (pM n D h)) /\ Below w.heap.size w w' := by
 unfold fW
 have h0 : bJ (w.alloc (.cells (dL t n (fun i => lo (D i)) (fun i => hi (D i)) S).toArray 40)) w.heap.size t n (fun i => lo (D i)) (fun i => hi (D i)) S := aD w _
 have hb := aE (aI w) (.cells (dL t n (fun i => lo (D i)) (fun i => hi (D i)) S).toArray 40)
 have hl := h0.lt
 have cN := h0.cN
 cases hq : dV n h
 . rw [show pM n D h = 18446744073709551615 by unfold pM; rw [hq]; rfl]
   have hh : ¬ (0 <= h /\ h < (n : Int)) := by unfold dV at hq; simpa using hq
   by_cases hz : 0 <= h
   all_goals
    go_enter func77, ntmps77
    go_wp2_with fail
    go_ret
    exact ⟨rfl, hb⟩
 . have hh : 0 <= h /\ h < (n : Int) := by unfold dV at hq; simpa using hq
   obtain ⟨k, rfl⟩ := Int.eq_ofNat_of_zero_le hh.1
   have hk : k < 8 := by omega
   rw [show pM n D (k : Int) = D k by unfold pM; rw [if_pos hq]; rfl]
   have cL := h0.cL k hk
   have cH := h0.cH k hk
   have hg := bI
   obtain ⟨d0, d1⟩ := hD k
   have HJ := Hd (aBT (D k))
   have a0 := fJ (D k)
   have a1 := rN (D k)
   have b0 := kU d0
   have b1 := aAe d1
   have hkn : (k : Int) < n := hh.2
   clear hq hh hD
   go_enter func77, ntmps77
   go_upto_region 1 with (fail)
   generalize (w.alloc (.cells (dL t n (fun i => lo (D i)) (fun i => hi (D i)) S).toArray 40)) = W at *
   go_wp2_with fail
   refine wp_region_quiet_below (by kernel_rfl) (by kernel_rfl) ?_
   repeat (go_big_quiet_step (first | (go_at_call 139; exact Calls.regrown_of ((aGM _ _ _ b0 b1 a0 a1).mono fun _ _ g => ⟨g.1, g.2 ▸ aI _⟩))))
   refine wpQuiet_nil ?_
   intro _ hw'
   obtain ⟨⟨dq, osq⟩, hw''⟩ := hw'
   subst hw''
   go_wp2_with fail
   go_ret
   exact ⟨bH HJ.out, trG hb _ _⟩
theorem iV : (prog.info? 43).map (·.size) = some 7 := by kernel_rfl
def r7 (en lk ar : Bool) (cl tot si fa : Int) : List Value := [.bool en, .bool lk, .bool ar, .int .u32 cl, .int .u32 tot, .int .u64 si, .int .i64 fa]
def vl (t : Wd) : List Value := r7 t.en t.lk t.ar t.cl t.tot t.si t.fa
theorem aBg (en lk ar : Bool) (cl tot si fa : Int) : ∀ x ∈ r7 en lk ar cl tot si fa, x.oneCell' = true := by
 intro x h
 simp only [r7, List.mem_cons, List.not_mem_nil, or_false] at h
 exact rA
abbrev tV : TypeId := 43
def bW (w : World) (b : Nat) (t : Wd) : Prop := w.heap[b]? = some (.cells (vl t).toArray tV (0, 0))
section
variable {w w' : World} {b : Nat} {t : Wd}
theorem bW.lt (h : bW w b t) : b < w.heap.size := lt_of_block h
theorem bW.below (h : bW w b t) (hb : Below w.heap.size w w') : bW w' b t := aC hb h h.lt
theorem bW.free (h : bW w b t) (j : Nat) : w.frozen? ⟨b, j, none⟩ = false := aN h j
theorem bW.c0 (h : bW w b t) : w.cell? ⟨b, 0, none⟩ = some (.bool t.en) := by rw [aA h 0]; rfl
theorem bW.c1 (h : bW w b t) : w.cell? ⟨b, 1, none⟩ = some (.bool t.lk) := by rw [aA h 1]; rfl
theorem bW.c2 (h : bW w b t) : w.cell? ⟨b, 2, none⟩ = some (.bool t.ar) := by rw [aA h 2]; rfl
theorem bW.c3 (h : bW w b t) : w.cell? ⟨b, 3, none⟩ = some (.int .u32 t.cl) := by rw [aA h 3]; rfl
theorem bW.c4 (h : bW w b t) : w.cell? ⟨b, 4, none⟩ = some (.int .u32 t.tot) := by rw [aA h 4]; rfl
theorem bW.c5 (h : bW w b t) : w.cell? ⟨b, 5, none⟩ = some (.int .u64 t.si) := by rw [aA h 5]; rfl
theorem bW.c6 (h : bW w b t) : w.cell? ⟨b, 6, none⟩ = some (.int .i64 t.fa) := by rw [aA h 6]; rfl
theorem bW.set (h : bW w b t) (j : Nat) (x : Value) {s : Wd} (he : (vl t).set j x = vl s) : bW (w.setCell ⟨b, j, none⟩ x) b s := by
 unfold bW; rw [aS h, <- he]; simp
theorem bW.s0 (h : bW w b t) (x : Bool) : bW (w.setCell ⟨b, 0, none⟩ (.bool x)) b { t with en := x } := h.set _ _ rfl
theorem bW.s1 (h : bW w b t) (x : Bool) : bW (w.setCell ⟨b, 1, none⟩ (.bool x)) b { t with lk := x } := h.set _ _ rfl
theorem bW.s2 (h : bW w b t) (x : Bool) : bW (w.setCell ⟨b, 2, none⟩ (.bool x)) b { t with ar := x } := h.set _ _ rfl
theorem bW.s3 (h : bW w b t) (x : Int) : bW (w.setCell ⟨b, 3, none⟩ (.int .u32 x)) b { t with cl := x } := h.set _ _ rfl
theorem bW.s4 (h : bW w b t) (x : Int) : bW (w.setCell ⟨b, 4, none⟩ (.int .u32 x)) b { t with tot := x } := h.set _ _ rfl
theorem bW.s5 (h : bW w b t) (x : Int) : bW (w.setCell ⟨b, 5, none⟩ (.int .u64 x)) b { t with si := x } := h.set _ _ rfl
theorem bW.s6 (h : bW w b t) (x : Int) : bW (w.setCell ⟨b, 6, none⟩ (.int .i64 x)) b { t with fa := x } := h.set _ _ rfl
theorem bW.other (h : bW w b t) (k j : Nat) (x : Value) (hne : b ≠ k) : bW (w.setCell ⟨k, j, none⟩ x) b t := aW h k j x hne
theorem bW.row {old : Array Value} (h : w.heap[b]? = some (.cells old tV (0, 0))) (t : Wd) : bW (w.setRow b (vl t).toArray) b t := aT _ h
theorem bW.grown (h : bW w b t) : ∀ w', (∃ p : Regrown, w' = grow (redrawn w p.d) p.os) -> bW w' b t := cV h
end
section
variable {ops : Array Oper} {rest : List Oper} {o : Oper} {a : Act} {w : World} {Q : Exit -> Act -> World -> Prop}
theorem bS (hgd : o.guard = none) (x : Operand) (ho : o.op = .load 43 x) {b : Nat} (hx : a.eval x = .pointer (some ⟨b, 0, none⟩)) {t : Wd} (hg : bW w b t)
 (h : wpList prog ops Q rest (a.put o.dst (.agg (vl t).toArray)) w) : wpList prog ops Q (o :: rest) a w :=
 aL hgd _ x ho b 0 hx _ (vl t) hg underlying43 rfl iV (aM _) h
theorem dK (hgd : o.guard = none) (x y : Operand) (ho : o.op = .store 43 x y) {b : Nat} (hx : a.eval x = .pointer (some ⟨b, 0, none⟩)) {t : Wd} (hy : a.eval y = .agg (vl t).toArray) {t' : Wd} (hg : bW w b t')
 (h : wpList prog ops Q rest (a.put o.dst undef) (w.setRow b (vl t).toArray)) : wpList prog ops Q (o :: rest) a w := by
 refine aH hgd _ x y ho b 0 hx (vl t) hy hg iV (by simp [vl, r7]) (aBg _ _ _ _ _ _ _) ?_
 rw [aV _ _ (by simp [vl, r7])]
 exact h
theorem aLV {C : World -> Prop} {K : Act -> Prop} (x : Operand) (ho : o.op = .load 43 x) {b : Nat} (hx : a.eval x = .pointer (some ⟨b, 0, none⟩)) {t : Wd} (hg : ∀ w, C w -> bW w b t)
 (h : K (a.put o.dst (.agg (vl t).toArray))) : o.quiet prog a C K :=
 bD _ x ho b 0 hx _ (vl t) (fun w hw => hg w hw) underlying43 rfl iV (aM _) h
end
theorem pO {fn : Func} {p q : Tmp} (h : fn.results = #[.cell p 43, .tmp q]) (tmps : Array Value) (w : World) {b : Nat} {t : Wd} (y : Value) (hp : tmps[p]? = some (.pointer (some ⟨b, 0, none⟩))) (hq : tmps[q]? = some y) (hg : bW w b t) :
 (results fn tmps).run prog w = .ok (.tuple #[.agg (vl t).toArray, y]) w :=
 bB h tmps w b 0 _ (vl t) y hp hq hg underlying43 rfl iV (aM _)
def zV : Obj := .cells (vl wz).toArray tV (0, 0)
theorem fE : Obj.cells #[.bool false, .bool false, .bool false, .int .u32 0, .int .u32 0, .int .u64 0, .int .i64 0] 43 (0, 0) = zV := rfl
def oV (t : Wd) : Obj := .cells (vl t).toArray tV (0, 0)
theorem dW (t : Wd) : Obj.cells (vl t).toArray 43 (0, 0) = oV t := rfl
theorem iR9 : (prog.info? 46).map (·.size) = some 35 := by kernel_rfl
def sl (f : Nat -> Bool) (la ct : Int) (qs : Bool) : List Value := bl f 32 ++ [.int .i64 la, .int .u32 ct, .bool qs]
theorem oG (f : Nat -> Bool) (la ct : Int) (qs : Bool) : (sl f la ct qs).length = 35 := by unfold sl; simp [bF]
theorem aCW (f : Nat -> Bool) (la ct : Int) (qs : Bool) : ∀ v ∈ sl f la ct qs, v.oneCell' = true := by
 intro v h
 unfold sl at h
 rcases List.mem_append.1 h with h | h
 . exact qR _ _ v h
 . simp only [List.mem_cons, List.not_mem_nil, or_false] at h
   rcases h with rfl | rfl | rfl <;> rfl
theorem aMH (f : Nat -> Bool) (la ct : Int) (qs : Bool) (i : Nat) (h : i < 32) : (sl f la ct qs)[i]? = some (.bool (f i)) := by
 unfold sl; rw [List.getElem?_append_left (by rw [bF]; exact h), qW _ _ _ h]
theorem qZ {P : Prop} (h : P := by
 unfold sl; rw [List.getElem?_append_right (by rw [bF]; omega), bF]; rfl
 ) : P := h
theorem aNs (f : Nat -> Bool) (la ct : Int) (qs : Bool) : (sl f la ct qs)[32]? = some (.int .i64 la) := by
 exact qZ
theorem aN4 (f : Nat -> Bool) (la ct : Int) (qs : Bool) : (sl f la ct qs)[33]? = some (.int .u32 ct) := by
 exact qZ
theorem aJL (f : Nat -> Bool) (la ct : Int) (qs : Bool) : (sl f la ct qs)[34]? = some (.bool qs) := by
 exact qZ
theorem aH3 (f : Nat -> Bool) (la ct : Int) (qs : Bool) : eM (sl f la ct qs).toArray 0 (bl f 32) := nN _ _
theorem aKG (f : Nat -> Bool) (la ct : Int) (qs : Bool) (i : Nat) (b : Bool) (h : i < 32) : (sl f la ct qs).set i (.bool b) = sl (fun j => if j = i then b else f j) la ct qs := by
 unfold sl; rw [List.set_append_left _ _ (by rw [bF]; exact h), aBP]
theorem qH {P : Prop} (h : P := by
 unfold sl; rw [List.set_append_right _ _ (by rw [bF]; omega), bF]; rfl
 ) : P := h
theorem aKo (f : Nat -> Bool) (la ct : Int) (qs : Bool) (x : Int) : (sl f la ct qs).set 32 (.int .i64 x) = sl f x ct qs := by
 exact qH
theorem aK8 (f : Nat -> Bool) (la ct : Int) (qs : Bool) (x : Int) : (sl f la ct qs).set 33 (.int .u32 x) = sl f la x qs := by
 exact qH
theorem aLA (f : Nat -> Bool) (la ct : Int) (qs : Bool) (x : Bool) : (sl f la ct qs).set 34 (.bool x) = sl f la ct x := by
 exact qH
abbrev tR9 : TypeId := 46
def dR (w : World) (b : Nat) (f : Nat -> Bool) (la ct : Int) (qs : Bool) : Prop := w.heap[b]? = some (.cells (sl f la ct qs).toArray tR9 (0, 0))
section
variable {w w' : World} {b : Nat} {f : Nat -> Bool} {la ct : Int} {qs : Bool}
theorem dR.lt (h : dR w b f la ct qs) : b < w.heap.size := lt_of_block h
theorem dR.below (h : dR w b f la ct qs) (hb : Below w.heap.size w w') : dR w' b f la ct qs := aC hb h h.lt
theorem dR.free (h : dR w b f la ct qs) (j : Nat) : w.frozen? ⟨b, j, none⟩ = false := aN h j
theorem dR.ci (h : dR w b f la ct qs) (i : Nat) (hi : i < 32) : w.cell? ⟨b, i, none⟩ = some (.bool (f i)) := by rw [aA h i]; simpa using aMH f la ct qs i hi
theorem dR.c32 (h : dR w b f la ct qs) : w.cell? ⟨b, 32, none⟩ = some (.int .i64 la) := by rw [aA h 32]; simpa using aNs f la ct qs
theorem dR.c33 (h : dR w b f la ct qs) : w.cell? ⟨b, 33, none⟩ = some (.int .u32 ct) := by rw [aA h 33]; simpa using aN4 f la ct qs
theorem dR.c34 (h : dR w b f la ct qs) : w.cell? ⟨b, 34, none⟩ = some (.bool qs) := by rw [aA h 34]; simpa using aJL f la ct qs
theorem dR.si (h : dR w b f la ct qs) (i : Nat) (x : Bool) (hi : i < 32) : dR (w.setCell ⟨b, i, none⟩ (.bool x)) b (fun j => if j = i then x else f j) la ct qs := by
 unfold dR; rw [aS h, fT, aKG _ _ _ _ _ _ hi]
theorem dR.s32 (h : dR w b f la ct qs) (x : Int) : dR (w.setCell ⟨b, 32, none⟩ (.int .i64 x)) b f x ct qs := by unfold dR; rw [aS h, fT, aKo]
theorem dR.s33 (h : dR w b f la ct qs) (x : Int) : dR (w.setCell ⟨b, 33, none⟩ (.int .u32 x)) b f la x qs := by unfold dR; rw [aS h, fT, aK8]
theorem dR.s34 (h : dR w b f la ct qs) (x : Bool) : dR (w.setCell ⟨b, 34, none⟩ (.bool x)) b f la ct x := by unfold dR; rw [aS h, fT, aLA]
theorem dR.congr {f' : Nat -> Bool} (h : dR w b f la ct qs) (hf : ∀ i, i < 32 -> f i = f' i) : dR w b f' la ct qs := by
 unfold dR sl at *
 rw [jV f' f 32 fun i hi => (hf i hi).symm]; exact h
theorem dR.other (h : dR w b f la ct qs) (k j : Nat) (x : Value) (hne : b ≠ k) : dR (w.setCell ⟨k, j, none⟩ x) b f la ct qs := aW h k j x hne
theorem dR.row {old : Array Value} (h : w.heap[b]? = some (.cells old tR9 (0, 0))) (f : Nat -> Bool) (la ct : Int) (qs : Bool) : dR (w.setRow b (sl f la ct qs).toArray) b f la ct qs := aT _ h
theorem dR.elseRow (h : dR w b f la ct qs) (g : Nat) (cs : Array Value) (hne : b ≠ g) : dR (w.setRow g cs) b f la ct qs := iT g cs h hne
theorem dR.alloc (h : dR w b f la ct qs) (o : Obj) : dR (w.alloc o) b f la ct qs := (aX w o h.lt).trans h
end
section
variable {ops : Array Oper} {rest : List Oper} {o : Oper} {a : Act} {w : World} {Q : Exit -> Act -> World -> Prop}
theorem lL (hgd : o.guard = none) (x : Operand) (ho : o.op = .load 46 x) {b : Nat} (hx : a.eval x = .pointer (some ⟨b, 0, none⟩)) {f : Nat -> Bool} {la ct : Int} {qs : Bool} (hg : dR w b f la ct qs)
 (h : wpList prog ops Q rest (a.put o.dst (.agg (sl f la ct qs).toArray)) w) : wpList prog ops Q (o :: rest) a w :=
 aL hgd _ x ho b 0 hx _ (sl f la ct qs) hg underlying46 rfl (by rw [oG]; exact iR9) (aM _) h
theorem mH (hgd : o.guard = none) (x y : Operand) (ho : o.op = .store 46 x y) {b : Nat} (hx : a.eval x = .pointer (some ⟨b, 0, none⟩)) {f : Nat -> Bool} {la ct : Int} {qs : Bool} (hy : a.eval y = .agg (sl f la ct qs).toArray) {f' : Nat -> Bool} {la' ct' : Int} {qs' : Bool} (hg : dR w b f' la' ct' qs')
 (h : wpList prog ops Q rest (a.put o.dst undef) (w.setRow b (sl f la ct qs).toArray)) : wpList prog ops Q (o :: rest) a w := by
 refine aH hgd _ x y ho b 0 hx (sl f la ct qs) hy hg (by rw [oG]; exact iR9) (by simp [oG]) (aCW _ _ _ _) ?_
 rw [aV _ _ (by simp [oG])]
 exact h
end
theorem aIG {ops : Array Oper} {rest : List Oper} {o : Oper} {a : Act} {w : World} {Q : Exit -> Act -> World -> Prop} (hgd : o.guard = none) (x : Operand) (ho : o.op = .load 44 x) {b : Nat} (hx : a.eval x = .pointer (some ⟨b, 0, none⟩)) {f : Nat -> Bool} {la ct : Int} {qs : Bool} (hg : dR w b f la ct qs)
 (h : wpList prog ops Q rest (a.put o.dst (.agg (bl f 32).toArray)) w) : wpList prog ops Q (o :: rest) a w :=
 aL hgd _ x ho b 0 hx _ (bl f 32) hg underlying44 rfl (by rw [bF]; exact i25) (aH3 _ _ _ _) h
theorem aOe {fn : Func} {p : Tmp} (h : fn.results = #[.cell p 46]) (tmps : Array Value) (w : World) {b : Nat} {f : Nat -> Bool} {la ct : Int} {qs : Bool} (hp : tmps[p]? = some (.pointer (some ⟨b, 0, none⟩))) (hg : dR w b f la ct qs) :
 (results fn tmps).run prog w = .ok (.agg (sl f la ct qs).toArray) w :=
 aU h tmps w b 0 _ (sl f la ct qs) hp hg underlying46 rfl (by rw [oG]; exact iR9) (aM _)
theorem tE {fn : Func} {p q : Tmp} (h : fn.results = #[.cell p 46, .tmp q]) (tmps : Array Value) (w : World) {b : Nat} {f : Nat -> Bool} {la ct : Int} {qs : Bool} (y : Value) (hp : tmps[p]? = some (.pointer (some ⟨b, 0, none⟩))) (hq : tmps[q]? = some y) (hg : dR w b f la ct qs) :
 (results fn tmps).run prog w = .ok (.tuple #[.agg (sl f la ct qs).toArray, y]) w :=
 bB h tmps w b 0 _ (sl f la ct qs) y hp hq hg underlying46 rfl (by rw [oG]; exact iR9) (aM _)
def oU (f : Nat -> Bool) (la ct : Int) (qs : Bool) : Obj := .cells (sl f la ct qs).toArray tR9 (0, 0)
theorem gT (f : Nat -> Bool) (la ct : Int) (qs : Bool) : Obj.cells (sl f la ct qs).toArray 46 (0, 0) = oU f la ct qs := rfl
def zU : Obj := oU (fun _ => false) 0 0 false
theorem jW : Obj.cells #[.bool false, .bool false, .bool false, .bool false, .bool false, .bool false, .bool false, .bool false, .bool false, .bool false, .bool false, .bool false, .bool false, .bool false, .bool false, .bool false, .bool false, .bool false, .bool false, .bool false, .bool false, .bool false, .bool false, .bool false, .bool false, .bool false, .bool false, .bool false, .bool false, .bool false, .bool false, .bool false, .int .i64 0, .int .u32 0, .bool false] 46 (0, 0) = zU := rfl
theorem aJY (w : World) (f : Nat -> Bool) (la ct : Int) (qs : Bool) : dR (w.alloc (oU f la ct qs)) w.heap.size f la ct qs := aD w _
def ul (t : Rs) : List Value := sl (aO t.ca) t.la t.ct t.qs
theorem kH (t : Tm) : (rl t).length = 8 := rfl
theorem aB3 (t : Tm) : ∀ x ∈ rl t, x.oneCell' = true := aGf _ _ _ _ _ _ _ _
def rP (w : World) (g o : Nat) (s : Tm) : Prop := ∃ cur t fr, w.heap[g]? = some (.cells cur t fr) /\ eM cur o (rl s)
theorem rP.cell {w : World} {g o : Nat} {s : Tm} (h : rP w g o s) (j : Nat) (v : Value) (hj : (rl s)[j]? = some v) : w.cell? ⟨g, o + j, none⟩ = some v := by
 obtain ⟨cur, t, fr, h1, h2⟩ := h
 rw [cell_of_row w g (o + j) cur t fr h1]
 exact h2 j v hj
theorem rP.below {w w' : World} {g o : Nat} {s : Tm} (h : rP w g o s) (hb : Below w.heap.size w w') : rP w' g o s := by
 obtain ⟨cur, t, fr, h1, h2⟩ := h
 exact ⟨cur, t, fr, aC hb h1 (lt_of_block h1), h2⟩
theorem rP.lt {w : World} {g o : Nat} {s : Tm} (h : rP w g o s) : g < w.heap.size := by
 obtain ⟨cur, t, fr, h1, h2⟩ := h
 exact lt_of_block h1
structure eH (w : World) (g n cap : Nat) (t : Nat -> Tm) : Prop where
 row : ∃ cur, w.heap[g]? = some (.cells cur tM (0, 0)) /\ cur.size = cap * 8 /\ ∀ i, i < n -> eM cur (i * 8) (rl (t i))
 nc : n <= cap
 cm : cap <= maxLen
section
variable {w w' : World} {g n cap B : Nat} {t s : Nat -> Tm}
theorem eH.lt (h : eH w g n cap t) : g < w.heap.size := by obtain ⟨cur, h1, _⟩ := h.row; exact lt_of_block h1
theorem eH.below (h : eH w g n cap t) (hb : Below w.heap.size w w') : eH w' g n cap t := by
 obtain ⟨cur, h1, h2, h3⟩ := h.row
 exact ⟨⟨cur, aC hb h1 h.lt, h2, h3⟩, h.nc, h.cm⟩
theorem eH.off {S : Nat -> Prop} (h : eH w g n cap t) (ho : aF S w w') (hs : ¬ S g) : eH w' g n cap t := by
 obtain ⟨cur, h1, h2, h3⟩ := h.row
 exact ⟨⟨cur, ho.at h1 hs, h2, h3⟩, h.nc, h.cm⟩
theorem eH.congr (h : eH w g n cap t) (hs : ∀ i, i < n -> t i = s i) : eH w g n cap s := by
 obtain ⟨cur, h1, h2, h3⟩ := h.row
 exact ⟨⟨cur, h1, h2, fun i hi => by rw [<- hs i hi]; exact h3 i hi⟩, h.nc, h.cm⟩
theorem eH.at (h : eH w g n cap t) {i : Nat} (hi : i < n) : rP w g (i * 8) (t i) := by
 obtain ⟨cur, h1, h2, h3⟩ := h.row
 exact ⟨cur, _, _, h1, h3 i hi⟩
theorem eH.c (h : eH w g n cap t) {i : Nat} (hi : i < n) (j : Nat) (v : Value) (hj : (rl (t i))[j]? = some v) : w.cell? ⟨g, i * 8 + j, none⟩ = some v := (h.at hi).cell j v hj
theorem eH.ne {b : Nat} {x : Array Value} {T : TypeId} {f : Nat × Nat} (h : eH w g n cap t) (hb : w.heap[b]? = some (.cells x T f)) (hne : (T == tM) = false) : g ≠ b := by
 obtain ⟨cur, h1, _⟩ := h.row
 rintro rfl
 rw [h1] at hb
 cases hb
 simp at hne
end
def kJ (w : World) (B : Nat) (v : Value) (k : Nat) (t : Nat -> Tm) : Prop := ∃ xs, w.ownsRow B tM 8 v k xs /\ ∀ i, i < k -> ∀ j u, (rl (t i))[j]? = some u -> xs[i * 8 + j]? = some u
theorem aHc (w : World) (B : Nat) (t : Nat -> Tm) : kJ w B (.slice none 0 0) 0 t := ⟨[], World.ownsRow_nil w B tM 8, fun i hi => by omega⟩
theorem aHL {w w' : World} {B : Nat} {e : TypeId} {z : Nat} {v : Value} {n : Nat} {xs : List Value} (h : w.ownsRow B e z v n xs) (hb : Below w.heap.size w w') : w'.ownsRow B e z v n xs := by
 refine ⟨h.1, ?_⟩
 rcases h.2 with h | ⟨g, cap, cur, h1, h2, h3, h4⟩
 . exact .inl h
 . exact .inr ⟨g, cap, cur, h1, h2, aC hb h3 (lt_of_block h3), h4⟩
theorem kJ.below {w w' : World} {B : Nat} {v : Value} {k : Nat} {t : Nat -> Tm} (h : kJ w B v k t) (hb : Below w.heap.size w w') : kJ w' B v k t := by
 obtain ⟨xs, h1, h2⟩ := h
 exact ⟨xs, aHL h1 hb, h2⟩
theorem aHD {w' : World} {B : Nat} {v' : Value} {k : Nat} {t : Nat -> Tm} {xs : List Value} (hl : xs.length = k * 8) (h2 : ∀ i, i < k -> ∀ j u, (rl (t i))[j]? = some u -> xs[i * 8 + j]? = some u) {x : Tm} (hx : t k = x)
 (h1 : w'.ownsRow B tM 8 v' (k + 1) (xs ++ rl x)) : kJ w' B v' (k + 1) t := by
 subst hx
 refine ⟨_, h1, fun i hi j u hu => ?_⟩
 have hj : j < 8 := by have := (List.getElem?_eq_some_iff.1 hu).1; rw [kH] at this; exact this
 by_cases e : i = k
 . subst e
   rw [List.getElem?_append_right (by omega), hl, show i * 8 + j - i * 8 = j by omega]
   exact hu
 . rw [List.getElem?_append_left (by rw [hl]; omega)]
   exact h2 i (by omega) j u hu
theorem kJ.rw {w : World} {B : Nat} {v : Value} {k : Nat} {t : Nat -> Tm} (h : kJ w B v k t) (h0 : 0 < k) : ∃ g cap, v = .slice (some ⟨g, 0, none⟩) k cap /\ B <= g /\ eH w g k cap t := by
 obtain ⟨xs, ⟨hl, ho⟩, h2⟩ := h
 rcases ho with ⟨_, hk⟩ | ⟨g, cap, cur, rfl, hB, hg, hkc, hcm, hcs, htk⟩
 . omega
 . refine ⟨g, cap, rfl, hB, ⟨⟨cur, hg, hcs, fun i hi j u hu => ?_⟩, hkc, hcm⟩⟩
   have h3 := h2 i hi j u hu
   rw [<- htk, List.getElem?_take] at h3
   split at h3
   . simpa using h3
   . cases h3
theorem aF.ofOwn {w w' : World} {v : Value} (h : w.grownBy w' v.ownBlock) : aF (fun k => v.ownBlock = some k) w w' := aF.ofGrown h fun k e => e
theorem kJ.block {w : World} {B : Nat} {v : Value} {k : Nat} {t : Nat -> Tm} (h : kJ w B v k t) {b : Nat} (hb : v.ownBlock = some b) : B <= b := by
 obtain ⟨xs, h1, _⟩ := h
 exact (h1.lt b hb).1
section
variable {ops : Array Oper} {rest : List Oper} {o : Oper} {a : Act} {w : World} {Q : Exit -> Act -> World -> Prop}
theorem aDO (hgd : o.guard = none) (x : Operand) (ho : o.op = .load 228 x) {g off : Nat} (hx : a.eval x = .pointer (some ⟨g, off, none⟩)) {t : Tm} (hg : rP w g off t)
 (h : wpList prog ops Q rest (a.put o.dst (.agg (rl t).toArray)) w) : wpList prog ops Q (o :: rest) a w := by
 obtain ⟨cur, ty, fr, h1, h2⟩ := hg
 exact aL hgd _ x ho g off hx _ (rl t) h1 underlying228 rfl iM h2 h
theorem aFN (x : Operand) (ho : o.op = .load 228 x) (hw : Region.wanted o (yielded ops a.tmps) = true) {g off : Nat} (hx : a.eval x = .pointer (some ⟨g, off, none⟩)) {t : Tm} (hg : rP w g off t)
 (h : wpList prog ops Q rest (a.put o.dst (.agg (rl t).toArray)) w) : wpList prog ops Q (o :: rest) a w := by
 obtain ⟨cur, ty, fr, h1, h2⟩ := hg
 exact cK _ x ho hw g off hx _ (rl t) h1 underlying228 rfl iM h2 h
end
theorem aDG : (prog.info? 228).map (fun i => (i.zero, i.size, i.bytes)) = some (some (.agg (rl tz).toArray), 8, 24) := by kernel_rfl
theorem aNO (w : World) (s : Tm) : rP (w.alloc (oM s)) w.heap.size 0 s := ⟨_, _, _, aD w (oM s), aM _⟩
section
variable {ops : Array Oper} {rest : List Oper} {o : Oper} {a : Act} {w : World} {Q : Exit -> Act -> World -> Prop}
theorem aKv (hgd : o.guard = none) (x : Operand) (ho : o.op = .buildSlice 41 1 #[(0, x)]) {s : Tm} (hx : a.eval x = .agg (rl s).toArray)
 (h : wpList prog ops Q rest (a.put o.dst (.slice (some ⟨w.heap.size, 0, none⟩) 1 1)) (w.alloc (oM s))) : wpList prog ops Q (o :: rest) a w := by
 obtain ⟨i0, hi, hz0, hz1, hz2⟩ := info_parts aDG
 refine wpList_buildSlice hgd _ 228 1 #[(0, x)] ho (rl s).toArray i0 _ underlying41 hi hz0 (by rw [hz1]; decide) (by rw [hz1]; decide) ?_ h
 rw [hz1]
 simp only [List.map_toArray, List.map_cons, List.map_nil, hx]
 rw [show Array.range (1 * 8) = #[0, 1, 2, 3, 4, 5, 6, 7] by decide]
 simp [Instr.fill, Value.cells, rl, r8]
theorem aIC (hgd : o.guard = none) (s x : Operand) (ho : o.op = .call { callee := .builtin .append, args := #[s, x], argTypes := #[41, 41] })
 {B k g : Nat} {v : Value} {t : Nat -> Tm} {y : Tm} (hs : a.eval s = v) (hO : kJ w B v k t) (hx : a.eval x = .slice (some ⟨g, 0, none⟩) 1 1) (hy : rP w g 0 y) (hyt : t k = y) (hk : k < 8) (hB : B <= w.heap.size)
 (h : ∀ v' w', kJ w' B v' (k + 1) t -> aF (fun b => v.ownBlock = some b) w w' -> wpList prog ops Q rest (a.put o.dst v') w') : wpList prog ops Q (o :: rest) a w := by
 obtain ⟨i0, hi, hz0, hz1, hz2⟩ := info_parts aDG
 obtain ⟨xs, h1, h2⟩ := hO
 refine wpList_append_own w hgd s x _ ho B 228 i0 _ 8 24 underlying41 hi hz0 hz1 hz2 rfl (by decide) v k xs hs h1 ⟨g, 0, none⟩ 1 1 (rl y) hx rfl (fun j u hu => ?_) (aB3 y) (by unfold maxLen; omega) (by omega) hB fun v' w' h3 h4 _ => ?_
 . have := hy.cell j u hu
   simpa [Addr.add_lit] using this
 . exact h v' w' (aHD h1.1 h2 hyt h3) (aF.ofOwn h4)
theorem aB7 (hgd : o.guard = none) (s x : Operand) (ho : o.op = .call { callee := .builtin .append, args := #[s, x], argTypes := #[41, 41] })
 {B g n cap : Nat} {v : Value} {t : Nat -> Tm} (hs : a.eval s = v) (hO : w.ownsRow B 228 8 v 0 []) (hx : a.eval x = .slice (some ⟨g, 0, none⟩) n cap) (hR : eH w g n cap t) (hn : n <= 8) (hB : B <= w.heap.size)
 (h : ∀ v' w', kJ w' B v' n t -> aF (fun b => v.ownBlock = some b) w w' -> wpList prog ops Q rest (a.put o.dst v') w') : wpList prog ops Q (o :: rest) a w := by
 obtain ⟨i0, hi, hz0, hz1, hz2⟩ := info_parts aDG
 obtain ⟨cur, h1, h2, h3⟩ := hR.row
 have hnc := hR.nc
 have key : ∀ (j : Nat) (u : Value), (cur.toList.take (n * 8))[j]? = some u -> cur[j]? = some u /\ u.oneCell' = true := by
  intro j u hu
  rw [List.getElem?_take] at hu
  split at hu
  . rename_i hj
    have hu' : cur[j]? = some u := by simpa using hu
    refine ⟨hu', ?_⟩
    have hj8 : j % 8 < (rl (t (j / 8))).length := by rw [kH]; omega
    have h4 := h3 (j / 8) (by omega) (j % 8) _ (List.getElem?_eq_getElem hj8)
    rw [show j / 8 * 8 + j % 8 = j by omega, hu'] at h4
    cases h4
    exact aB3 _ _ (List.getElem_mem hj8)
  . cases hu
 refine wpList_append_own w hgd s x _ ho B 228 i0 _ 8 24 underlying41 hi hz0 hz1 hz2 rfl (by decide) v 0 [] hs hO ⟨g, 0, none⟩ n cap (cur.toList.take (n * 8)) hx (by simp; omega) (fun j u hu => ?_) (fun u hu => ?_) (by unfold maxLen; omega) (by omega) hB fun v' w' h5 h6 _ => ?_
 . rw [Addr.add_lit, Nat.zero_add, cell_of_row w g j cur _ _ h1]
   exact (key j u hu).1
 . obtain ⟨j, hj⟩ := List.mem_iff_getElem?.1 hu
   exact (key j u hj).2
 . refine h v' w' ⟨_, by simpa using h5, fun i hi j u hu => ?_⟩ (aF.ofOwn h6)
   have hj : j < 8 := by have := (List.getElem?_eq_some_iff.1 hu).1; rw [kH] at this; exact this
   rw [List.getElem?_take, if_pos (by omega)]
   simpa using h3 i hi j u hu
theorem aKU (hgd : o.guard = none) (x y : Operand) (ho : o.op = .store 228 x y) {g n cap k : Nat} {t : Nat -> Tm} {s : Tm} (hx : a.eval x = .pointer (some ⟨g, k * 8, none⟩)) (hy : a.eval y = .agg (rl s).toArray) (hR : eH w g n cap t) (hk : k < n)
 (h : ∀ w', eH w' g n cap (nO t k s) -> aF (· = g) w w' -> wpList prog ops Q rest (a.put o.dst undef) w') : wpList prog ops Q (o :: rest) a w := by
 obtain ⟨cur, h1, h2, h3⟩ := hR.row
 have hnc := hR.nc
 refine aH hgd _ x y ho g (k * 8) hx (rl s) hy h1 iM (by rw [kH]; omega) (aB3 s) (h _ ?_ ?_)
 . refine ⟨⟨bN cur (k * 8) (rl s), aT _ h1, ?_, fun i hi j u hu => ?_⟩, hR.nc, hR.cm⟩
   . simp [bN, kH]; omega
   . have hj : j < 8 := by have := (List.getElem?_eq_some_iff.1 hu).1; rw [kH] at this; exact this
     unfold bN
     have hlen : (cur.toList.take (k * 8)).length = k * 8 := by simp; omega
     by_cases e : i = k
     . subst e
       rw [nK] at hu
       rw [List.getElem?_toArray, List.append_assoc, List.getElem?_append_right (by omega), hlen, show i * 8 + j - i * 8 = j by omega, List.getElem?_append_left (by rw [kH]; exact hj)]
       exact hu
     . rw [mR _ _ e] at hu
       have h4 := h3 i hi j u hu
       rw [List.getElem?_toArray, List.append_assoc]
       by_cases c : i < k
       . rw [List.getElem?_append_left (by omega), List.getElem?_take, if_pos (by omega)]
         simpa using h4
       . rw [List.getElem?_append_right (by omega), hlen, List.getElem?_append_right (by rw [kH]; omega), kH, List.getElem?_drop, show k * 8 + 8 + (i * 8 + j - k * 8 - 8) = i * 8 + j by omega]
         simpa using h4
 . exact ⟨rfl, rfl, rfl, by simp, fun b _ hs => setRow_other w g b _ hs⟩
end
end Go.Proofs.YtpojmmgokgamgaaGreat.B
