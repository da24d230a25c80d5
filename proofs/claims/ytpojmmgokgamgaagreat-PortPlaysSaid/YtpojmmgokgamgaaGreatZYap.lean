/- A part of the proof of a law of layer 12: ap. -/
import Derived.Test.YtpojmmgokgamgaaGreatZYao
import Derived.Shelf.SlMaps.Clone
set_option linter.unusedVariables false
set_option linter.unusedSimpArgs false
set_option maxHeartbeats 12800000
set_option maxRecDepth 100000
namespace Go.Proofs.YtpojmmgokgamgaaGreat.B
open Go.Proofs.Tryz
open Go.ChangeShapes Go.WideShapes Go.RowKit Go.Sort Go.MapKept
theorem aCQ (v : Int) (v0 : 0 <= v) : field v 0 1 = v % 2 := by
 unfold field inw
 simp
 omega
def oR (W : World) (x : Nat) (k h : Int) : Prop := W.heap[x]? = some (.cells #[.int .i64 k, .int .i64 h] 250 (0, 0))
theorem oR.c0 {W : World} {x : Nat} {k h : Int} (a : oR W x k h) : W.cell? ⟨x, 0, none⟩ = some (.int .i64 k) := by have := aA a 0; simpa using this
theorem oR.c1 {W : World} {x : Nat} {k h : Int} (a : oR W x k h) : W.cell? ⟨x, 1, none⟩ = some (.int .i64 h) := by have := aA a 1; simpa using this
theorem oR.lt {W : World} {x : Nat} {k h : Int} (a : oR W x k h) : x < W.heap.size := lt_of_block a
theorem aBX (v t : Int) (h n : Nat) (D S : Nat -> Int) (p m : Nat) (w : World) (hc : dO w p m t n D S) (hn : h < n) (v0 : 0 <= v) (v1 : v < 4294967296) :
 Calls prog 256 #[.pointer (some ⟨p, 0, none⟩), .int .u32 (4 * (h : Int)), .int .u32 v] w
  fun e w' => e = .returned (.int .i64 0) /\ dO w' p m t n D (upd S h (v % 2)) /\ aF (· = p) w w' := by
 have n8 := hc.n1
 have hh : h < 8 := by omega
 go_enter func256, ntmps256
 go_wp2_with fail
 refine (aAa (4 * (h : Int)) t 0 h n D S p m _ hc (by omega) (ne4 (by omega)) (aAC hn)).mono ?_
 rintro e w1 ⟨rfl, hb⟩
 have H := Hd (hc.below (aE hb (.cells #[.int .i64 0, .int .i64 h] 250)))
 have X := aD w1 (.cells #[.int .i64 0, .int .i64 h] 250)
 have HB := Hd (aE hb (.cells #[.int .i64 0, .int .i64 h] 250))
 clear hc hb
 go_upto_region 2 with (fail)
 generalize (w1.alloc (.cells #[.int .i64 0, .int .i64 h] 250)) = W at *
 generalize w1.heap.size = x at *
 have R : oR W x 0 h := X
 have x0 := R.c0
 have x1 := R.c1
 have hx := R.lt
 clear X R
 have hp := H.out.ltp
 have cS := H.out.cS h hh
 have fS := H.out.free (10 + h)
 have hg := bI
 have hf := cP
 go_wp2_with fail
 refine aJ 8 (by kernel_rfl) (by kernel_rfl) ?_
 simp only [List.take_succ_cons, List.take_zero, List.drop_succ_cons, List.drop_zero]
 repeat (go_big_quiet_step (first | (go_at_call 238; exact Calls.regrown_of ((Field v 0 1 _ v0 v1 (by omega) (by omega)).mono fun _ _ g => ⟨g.1, by obtain ⟨_, j, rfl⟩ := g; exact tQ (aI _) _⟩))))
 refine wpQuiet_nil ?_
 intro _ hw'
 obtain ⟨⟨dq, osq⟩, hw''⟩ := hw'
 subst hw''
 have hb2 := below_regrown W dq osq
 have E := Hd (aCQ v v0)
 have H2 := Hd ((H.out.below hb2).setS h (v := v % 2) hh (by omega) (by omega))
 have O2 := Hd (((aF.ofBelow (S := (· = p)) (tr HB.out hb2))).trans (aG _ p (10 + h) (.int .u32 (v % 2))))
 go_wp2_with fail
 go_ret
 rw [E.out]
 exact ⟨rfl, H2.out, O2.out⟩
theorem aDd (v t : Int) (h n : Nat) (D S : Nat -> Int) (p m : Nat) (w : World) (hc : dO w p m t n D S) (hn : h < n) (v0 : 0 <= v) (v1 : v < 4294967296) :
 Calls prog 256 #[.pointer (some ⟨p, 0, none⟩), .int .u32 (16384 + 8 * (h : Int)), .int .u32 v] w
  fun e w' => e = .returned (.int .i64 0) /\ dO w' p m t n (upd D h (dD (hi (D h)) v)) S /\ aF (· = p) w w' := by
 have n8 := hc.n1
 have hh : h < 8 := by omega
 go_enter func256, ntmps256
 go_wp2_with fail
 refine (aAa (16384 + 8 * (h : Int)) t 1 h n D S p m _ hc (by omega) (ne4 (by omega)) (aDU hn)).mono ?_
 rintro e w1 ⟨rfl, hb⟩
 have H := Hd (hc.below (aE hb (.cells #[.int .i64 1, .int .i64 h] 250)))
 have X := aD w1 (.cells #[.int .i64 1, .int .i64 h] 250)
 have HB := Hd (aE hb (.cells #[.int .i64 1, .int .i64 h] 250))
 clear hc hb
 go_upto_region 2 with (fail)
 generalize (w1.alloc (.cells #[.int .i64 1, .int .i64 h] 250)) = W at *
 generalize w1.heap.size = x at *
 have R : oR W x 1 h := X
 have x0 := R.c0
 have x1 := R.c1
 have hx := R.lt
 clear X R
 have hp := H.out.ltp
 have cD := H.out.cD h hh
 obtain ⟨d0, d1⟩ := H.out.d h
 have fS := H.out.free (2 + h)
 have hg := bI
 have hf := cP
 go_wp2_with fail
 refine aJ 16 (by kernel_rfl) (by kernel_rfl) ?_
 simp only [List.take_succ_cons, List.take_zero, List.drop_succ_cons, List.drop_zero]
 repeat (go_big_quiet_step (first | (go_at_call 219; exact Calls.regrown_of ((Hi _ _ d0 d1).mono fun _ _ g => ⟨g.1, g.2 ▸ aI _⟩)) | (go_at_call 260; exact Calls.regrown_of ((aG0 _ _ _ (kU d0) (aAe d1) v0 v1).mono fun _ _ g => ⟨g.1, g.2 ▸ aI _⟩))))
 refine wpQuiet_nil ?_
 intro _ hw'
 obtain ⟨⟨dq, osq⟩, hw''⟩ := hw'
 subst hw''
 have hb2 := below_regrown W dq osq
 have vb := gF (kU d0) (aAe d1) v0 v1
 have H2 := Hd ((H.out.below hb2).setD h (v := dD (hi (D h)) v) hh vb.1 vb.2)
 have O2 := Hd (((aF.ofBelow (S := (· = p)) (tr HB.out hb2))).trans (aG _ p (2 + h) (.int .u64 (dD (hi (D h)) v))))
 clear vb
 go_wp2_with fail
 go_ret
 exact ⟨rfl, H2.out, O2.out⟩
theorem aCN (v t : Int) (h n : Nat) (D S : Nat -> Int) (p m : Nat) (w : World) (hc : dO w p m t n D S) (hn : h < n) (v0 : 0 <= v) (v1 : v < 4294967296) :
 Calls prog 256 #[.pointer (some ⟨p, 0, none⟩), .int .u32 (16384 + 8 * (h : Int) + 4), .int .u32 v] w
  fun e w' => e = .returned (.int .i64 0) /\ dO w' p m t n (upd D h (dD v (lo (D h)))) S /\ aF (· = p) w w' := by
 have n8 := hc.n1
 have hh : h < 8 := by omega
 go_enter func256, ntmps256
 go_wp2_with fail
 refine (aAa (16384 + 8 * (h : Int) + 4) t 2 h n D S p m _ hc (by omega) (ne4 (by omega)) (aAF hn)).mono ?_
 rintro e w1 ⟨rfl, hb⟩
 have H := Hd (hc.below (aE hb (.cells #[.int .i64 2, .int .i64 h] 250)))
 have X := aD w1 (.cells #[.int .i64 2, .int .i64 h] 250)
 have HB := Hd (aE hb (.cells #[.int .i64 2, .int .i64 h] 250))
 clear hc hb
 go_upto_region 2 with (fail)
 generalize (w1.alloc (.cells #[.int .i64 2, .int .i64 h] 250)) = W at *
 generalize w1.heap.size = x at *
 have R : oR W x 2 h := X
 have x0 := R.c0
 have x1 := R.c1
 have hx := R.lt
 clear X R
 have hp := H.out.ltp
 have cD := H.out.cD h hh
 obtain ⟨d0, d1⟩ := H.out.d h
 have fS := H.out.free (2 + h)
 have hg := bI
 have hf := cP
 go_wp2_with fail
 refine aJ 16 (by kernel_rfl) (by kernel_rfl) ?_
 simp only [List.take_succ_cons, List.take_zero, List.drop_succ_cons, List.drop_zero]
 repeat (go_big_quiet_step (first | (go_at_call 180; exact Calls.regrown_of ((Lo _ _ d0 d1).mono fun _ _ g => ⟨g.1, g.2 ▸ aI _⟩)) | (go_at_call 260; exact Calls.regrown_of ((aG0 _ _ _ v0 v1 (fJ _) (rN _)).mono fun _ _ g => ⟨g.1, g.2 ▸ aI _⟩))))
 refine wpQuiet_nil ?_
 intro _ hw'
 obtain ⟨⟨dq, osq⟩, hw''⟩ := hw'
 subst hw''
 have hb2 := below_regrown W dq osq
 have vb := gF v0 v1 (fJ (D h)) (rN (D h))
 have H2 := Hd ((H.out.below hb2).setD h (v := dD v (lo (D h))) hh vb.1 vb.2)
 have O2 := Hd (((aF.ofBelow (S := (· = p)) (tr HB.out hb2))).trans (aG _ p (2 + h) (.int .u64 (dD v (lo (D h))))))
 clear vb
 go_wp2_with fail
 go_ret
 exact ⟨rfl, H2.out, O2.out⟩
theorem wR (o v t : Int) (n : Nat) (D S : Nat -> Int) (p m : Nat) (w : World) (hc : dO w p m t n D S) (E : Int) (hE : (E != 0) = true) (hE2 : (E == 0) = false)
 (hf : Calls prog 258 #[.pointer (some ⟨p, 0, none⟩), .int .u32 o] w fun e w' => e = .returned (.tuple #[.agg #[.int .i64 0, .int .i64 0], .int .i64 E]) /\ Below w.heap.size w w') :
 Calls prog 256 #[.pointer (some ⟨p, 0, none⟩), .int .u32 o, .int .u32 v] w
  fun e w' => e = .returned (.int .i64 E) /\ dO w' p m t n D S /\ aF (· = p) w w' := by
 have HF := Hd hf
 clear hf
 go_enter func256, ntmps256
 go_wp2_with fail
 refine HF.out.mono ?_
 rintro e w1 ⟨rfl, hb⟩
 have H := Hd (hc.below (aE hb (.cells #[.int .i64 0, .int .i64 0] 250)))
 have O := Hd (aF.ofBelow (S := (· = p)) (aE hb (.cells #[.int .i64 0, .int .i64 0] 250)))
 clear hc hb
 go_wp2_with fail
 go_ret
 exact ⟨rfl, H.out, O.out⟩
theorem uD (o v t : Int) (k n : Nat) (D S : Nat -> Int) (p m : Nat) (w : World) (hc : dO w p m t n D S) (hk : k = 3 \/ k = 4) (o0 : 0 <= o) (o4 : (o % 4 != 0) = false) (hin : (o, eF k (0 : Nat)) ∈ oJ n) :
 Calls prog 256 #[.pointer (some ⟨p, 0, none⟩), .int .u32 o, .int .u32 v] w
  fun e w' => e = .returned (.int .i64 12) /\ dO w' p m t n D S /\ aF (· = p) w w' := by
 rcases hk with rfl | rfl
 all_goals
  go_enter func256, ntmps256
  go_wp2_with fail
  refine (aAa o t _ _ n D S p m _ hc o0 o4 hin).mono ?_
  rintro e w1 ⟨rfl, hb⟩
  go_wp2_with fail
  go_ret
  exact ⟨rfl, hc.below (aE hb _), aF.ofBelow (aE hb _)⟩
theorem aLD (o v t : Int) (n : Nat) (D S : Nat -> Int) (p m : Nat) (w : World) (hc : dO w p m t n D S) (o0 : 0 <= o) (o1 : o < 4294967296) (v0 : 0 <= v) (v1 : v < 4294967296) :
 Calls prog 256 #[.pointer (some ⟨p, 0, none⟩), .int .u32 o, .int .u32 v] w
  fun e w' => e = .returned (.int .i64 (eE n o)) /\ dO w' p m t n (eV n D o v) (eU n S o v) /\ aF (· = p) w w' := by
 have n8 := hc.n1
 rcases aBi n o with h | h | h | ⟨h, hn, e⟩ | ⟨h, hn, e⟩ | ⟨h, hn, e⟩ | ⟨h4, h1, h2, h⟩
 . have he : eE n o = 11 := by rw [oQ (by rw [iO h]; omega), iO h]
   rw [he, gR (by rw [he]; omega), gX (by rw [he]; omega)]
   exact wR o v t n D S p m w hc 11 rfl rfl (zZ o p w o0 (by simpa using h))
 . subst h; rw [nI, gR (by rw [nI]; omega), gX (by rw [nI]; omega)]; exact uD _ v t 3 n D S p m w hc (.inl rfl) o0 (by decide) (aGR n)
 . subst h; rw [mT, gR (by rw [mT]; omega), gX (by rw [mT]; omega)]; exact uD _ v t 4 n D S p m w hc (.inr rfl) o0 (by decide) (aGQ n)
 . subst e; rw [pZ hn n8, xO hn n8, vI hn n8]; exact aBX v t h n D S p m w hc hn v0 v1
 . subst e; rw [sI hn n8, aA5 hn n8, aAU hn]; exact aDd v t h n D S p m w hc hn v0 v1
 . subst e; rw [pR hn n8, xD hn n8, wB hn]; exact aCN v t h n D S p m w hc hn v0 v1
 . have hr := oO (n := n) o0 h4 h1 h2 h
   have he : eE n o = 10 := by rw [oQ (by rw [hr]; omega), hr]
   rw [he, gR (by rw [he]; omega), gX (by rw [he]; omega)]
   exact wR o v t n D S p m w hc 10 rfl rfl (wI o t n D S p m w hc o0 o1 (by simpa using h4) (aA1 n o h1 h2 h))
theorem aMc (m n : Nat) (w : World) (hm : eL w ek lF m (oJ n)) :
 Calls prog 190 #[.map (some m)] w
  fun e w' => e = .returned (.map (some w.heap.size)) /\ eL w' ek lF w.heap.size (oJ n) /\ Below w.heap.size w w' := by
 obtain ⟨es, c, hb, h1, h2, h3⟩ := hm
 have hq := fun w => run_eql_map_nil_sl (P := prog) w 162 _ _ (some m) underlying162
 have HK := Hd (show eL (w.alloc (.map es c)) ek lF w.heap.size (oJ n) from ⟨es, c, aD w _, h1, h2, h3⟩)
 clear h1 h2 h3
 go_enter func190, ntmps190
 go_wp2
 rw [run_callFunc_extern func215 (by kernel_rfl) (by kernel_rfl) (by kernel_rfl) (e := Extern.MapsClone.clone) (by kernel_rfl), run_maps_clone_sl w 162 hb]
 simp only [Result.andThen]
 rw [Oper.upon_value]
 go_wp2
 rw [run_typeAssert_map_sl _ 162 20 _ _ _ underlying162]
 simp only [Result.andThen]
 rw [Oper.upon_value]
 go_wp2
 go_ret
 exact ⟨rfl, HK.out, aE (aI w) _⟩
theorem aFj : (prog.info? 164).map (·.size) = some 19 := by kernel_rfl
def aN2 (w : World) (t : Int) (n : Nat) (D S : Nat -> Int) (e : Ending) (w' : World) : Prop :=
 ∃ m', w.heap.size < m' /\ e = .returned (.pointer (some ⟨w.heap.size, 0, none⟩)) /\ dO w' w.heap.size m' t n D S /\ Below w.heap.size w w'
theorem aN3 (t : Int) (n : Nat) (D S : Nat -> Int) (p m : Nat) (w : World) (hc : dO w p m t n D S) :
 Calls prog 129 #[.pointer (some ⟨p, 0, none⟩)] w (aN2 w t n D S) := by
 have hl := hc.ltp
 have HC := Hd hc
 clear hc
 go_enter func129, ntmps129
 go_upto_region 4 with (first
  | (refine aL rfl 164 (.tmp 7) rfl p 0 rfl _ (mZ t n D S m) HC.out.cell underlying164 rfl (by rw [sB]; exact aFj) (aM _) ?_)
  | (refine aH rfl 164 (.tmp 3) (.tmp 8) rfl _ 0 rfl (mZ t n D S m) rfl (aD _ _) (by rw [sB]; exact aFj) (by rw [sB]; decide) (aHp _ _ _ _ _) ?_))
 rw [aV _ _ (by rw [sB]; rfl)]
 have hK := aT (mZ t n D S m).toArray (aD w (.cells #[.int .u64 0, .int .i64 0, .int .u64 0, .int .u64 0, .int .u64 0, .int .u64 0, .int .u64 0, .int .u64 0, .int .u64 0, .int .u64 0, .int .u32 0, .int .u32 0, .int .u32 0, .int .u32 0, .int .u32 0, .int .u32 0, .int .u32 0, .int .u32 0, .map none] 164))
 have hB := aB (aE (aI w) (.cells #[.int .u64 0, .int .i64 0, .int .u64 0, .int .u64 0, .int .u64 0, .int .u64 0, .int .u64 0, .int .u64 0, .int .u64 0, .int .u64 0, .int .u32 0, .int .u32 0, .int .u32 0, .int .u32 0, .int .u32 0, .int .u32 0, .int .u32 0, .int .u32 0, .map none] 164)) (mZ t n D S m).toArray (Nat.le_refl w.heap.size)
 generalize (w.alloc (.cells #[.int .u64 0, .int .i64 0, .int .u64 0, .int .u64 0, .int .u64 0, .int .u64 0, .int .u64 0, .int .u64 0, .int .u64 0, .int .u64 0, .int .u32 0, .int .u32 0, .int .u32 0, .int .u32 0, .int .u32 0, .int .u32 0, .int .u32 0, .int .u32 0, .map none] 164)).setRow w.heap.size (mZ t n D S m).toArray = W at *
 have c := (HC.out.below hB).cM
 have f := aN hK 18
 have hM := (HC.out.below hB).map
 have K := Hd hK
 have hs : w.heap.size < W.heap.size := lt_of_block hK
 have HB := Hd hB
 clear hK hB
 go_wp2_with fail
 refine (aMc m n W hM).mono ?_
 rintro e w2 ⟨rfl, hM2, hb2⟩
 have K2 := aC hb2 K.out hs
 have c2 := aA K2 18
 have f2 := aN K2 18
 rw [List.getElem?_toArray, aJT] at c2
 have HK2 := Hd K2
 clear K2
 go_wp2_with fail
 go_ret
 have hm2 := hM2.lt
 refine ⟨W.heap.size, hs, rfl, ⟨?_, hM2.kept (Below.heap_setCell _ _ _ _ (by show W.heap.size ≠ w.heap.size; omega)), HC.out.t0, HC.out.t1, HC.out.n0, HC.out.n1, HC.out.d, HC.out.s⟩, (tr HB.out hb2).setCell (p := ⟨w.heap.size, 18, none⟩) (Nat.le_refl _) _⟩
 rw [aS HK2.out]
 simp only [List.setIfInBounds_toArray]
 rw [aFP]
def rmO : Obj := .cells (rm 0 (fun _ => 0)).toArray tRm (0, 0)
theorem aE3 : Obj.cells #[.pointer none, .pointer none, .pointer none, .pointer none, .pointer none, .pointer none, .pointer none, .pointer none] tRm (0, 0) = rmO := rfl
theorem gY.push {w w' : World} {g k r : Nat} {q : Nat -> Nat} {t : Nat -> Tm} (h : gY w g k q t) (hb : Below w.heap.size w w') (hk : k < 8) (a : jA w' r tC (t k)) (o : (t k).ok) (hr : w.heap.size <= r) :
 gY (w'.setCell ⟨g, k, none⟩ (.pointer (some ⟨r, 0, none⟩))) g (k + 1) (fun i => if i = k then r else q i) t := by
 have h' := h.below hb
 have hrg : r ≠ g := by have := h.lt; omega
 refine ⟨?_, ?_, ?_, ?_, by omega⟩
 . rw [aS h'.room, fT, show Value.pointer (some ⟨r, 0, none⟩) = jN r from rfl, aKb k q r hk]
 . intro i hi
   by_cases e : i = k
   . subst e; rw [if_pos rfl]; exact a.other _ _ _ hrg
   . rw [if_neg e]; exact (h'.tms i (by omega)).other _ _ _ (h'.gne (by omega))
 . intro i hi
   by_cases e : i = k
   . subst e; exact o
   . exact h.ok i (by omega)
 . intro i j hi hj e
   by_cases ei : i = k <;> by_cases ej : j = k
   . rw [ei, ej]
   . rw [if_pos ei, if_neg ej] at e; have := h.ltq (show j < k by omega); omega
   . rw [if_neg ei, if_pos ej] at e; have := h.ltq (show i < k by omega); omega
   . rw [if_neg ei, if_neg ej] at e; exact h.one i j (by omega) (by omega) e
theorem zQ (w : World) (t : Nat -> Tm) : gY (w.alloc rmO) w.heap.size 0 (fun _ => 0) t :=
 ⟨aD w rmO, fun i hi => by omega, fun i hi => by omega, fun i j hi => by omega, by omega⟩
theorem aNU (i : Int) (w : World) : Calls prog 92 #[.int .i64 i] w fun e w' => e = .returned (.pointer (some ⟨w.heap.size, 0, none⟩)) /\ w' = w.alloc (.cells (wl tz).toArray tC (0, 0)) := by
 go_enter func92, ntmps92
 go_wp2_with fail
 refine (aO4 w).mono ?_
 rintro e w1 ⟨rfl, rfl⟩
 exact aR
theorem wF {P : Prop} (h : P := by
 rw [aA (R.below hb1).room k]
 have : k < (rm k q').length := by rw [xR]; omega
 rw [List.getElem?_toArray]
 exact ⟨_, List.getElem?_eq_getElem this⟩
 ) : P := h
theorem uX {P : Prop} (h : P := by
 intro i hi
 by_cases e : i = k
 . subst e; show w.heap.size <= (if i = i then wr.heap.size else q' i); rw [if_pos rfl]; exact hsz
 . show w.heap.size <= (if i = k then wr.heap.size else q' i); rw [if_neg e]; exact hq i (by omega)
 ) : P := h
theorem aHd {n : Nat} (n8 : n <= 8) (w : World) :
 Calls prog 91 #[.int .i64 n, .func (.func 92) #[] #[]] w fun e w' => ∃ q' : Nat -> Nat, e = .returned (.slice (some ⟨w.heap.size, 0, none⟩) n n) /\ gY w' w.heap.size n q' (fun _ => tz) /\ Below w.heap.size w w' /\ ∀ i, i < n -> w.heap.size <= q' i := by
 have R0 := zQ w (fun _ => tz)
 have B0 := aE (aI w) rmO
 go_enter func91, ntmps91
 go_upto_region 2 with (fail)
 rw [aE3]
 generalize w.alloc rmO = W at *
 go_wp2_with fail
 go_loopw [8] (fun i wr => ∃ (k : Nat) (q' : Nat -> Nat), k <= n /\ i = .int .i64 k /\ gY wr w.heap.size k q' (fun _ => tz) /\ Below w.heap.size w wr /\ ∀ i, i < k -> w.heap.size <= q' i) (fun i wr => n - (intOf i).toNat)
 case atStart => exact ⟨0, _, by omega, rfl, R0, B0, fun i hi => by omega⟩
 case round =>
  clear R0 B0
  obtain ⟨k, q', hk, rfl, R, hB, hq⟩ := hrel
  by_cases hlt : k < n
  . skip
    go_wp2_with fail
    refine (aNU k wr).mono ?_
    rintro e w1 ⟨rfl, rfl⟩
    have hb1 := aE (aI wr) (.cells (wl tz).toArray tC (0, 0))
    have a1 : jA (wr.alloc (.cells (wl tz).toArray tC (0, 0))) wr.heap.size tC tz := aD wr _
    have R2 := R.push hb1 (by omega) a1 aC9 (Nat.le_refl _)
    have hB2 := (tr hB hb1).setCell (p := ⟨w.heap.size, k, none⟩) (Nat.le_refl _) (.pointer (some ⟨wr.heap.size, 0, none⟩))
    have hf : (wr.alloc (.cells (wl tz).toArray tC (0, 0))).frozen? ⟨w.heap.size, k, none⟩ = false := aN (R.below hb1).room k
    have hc : ∃ v, (wr.alloc (.cells (wl tz).toArray tC (0, 0))).cell? ⟨w.heap.size, k, none⟩ = some v := by
     exact wF
    obtain ⟨v, hc⟩ := hc
    have hsz : w.heap.size <= wr.heap.size := hB.size
    have hq2 : ∀ i, i < k + 1 -> w.heap.size <= (fun i => if i = k then wr.heap.size else q' i) i := by
     exact uX
    have HR := Hd R2
    have HB := Hd hB2
    have HQ := Hd hq2
    clear R hB R2 hB2 hq hq2 a1 hb1 
    generalize wr.alloc (.cells (wl tz).toArray tC (0, 0)) = W1 at *
    generalize wr.heap.size = r at *
    go_wp2_with fail
    go_roundw
    case rel => exact ⟨k + 1, _, by omega, by go_num, HR.out, HB.out, HQ.out⟩
    case measure => simp [intOf]; omega
  . obtain rfl : k = n := by omega
    have HR := Hd R
    clear R
    have hal : prog.arrayLen 251 = 8 := by kernel_rfl
    have hk8 : (k : Int) <= 8 := by omega
    go_wp2_with fail
    go_ret
    exact ⟨q', rfl, HR.out, hB, hq⟩
theorem aEy {n : Nat} {w0 : World} {p g : Nat} {q : Nat -> Nat} {t : Nat -> Tm} (h : cI w0 p g n q t) (n8 : n <= 8) (w : World) (hb0 : Below w0.heap.size w0 w) :
 Calls prog 91 #[.int .i64 n, .func (.func 145) #[.pointer (some ⟨p, 0, none⟩)] #[]] w fun e w' => ∃ q' : Nat -> Nat, e = .returned (.slice (some ⟨w.heap.size, 0, none⟩) n n) /\ gY w' w.heap.size n q' t /\ Below w.heap.size w w' /\ ∀ i, i < n -> w.heap.size <= q' i := by
 have R0 := zQ w t
 have B0 := aE (aI w) rmO
 go_enter func91, ntmps91
 go_upto_region 2 with (fail)
 rw [aE3]
 generalize w.alloc rmO = W at *
 go_wp2_with fail
 go_loopw [8] (fun i wr => ∃ (k : Nat) (q' : Nat -> Nat), k <= n /\ i = .int .i64 k /\ gY wr w.heap.size k q' t /\ Below w.heap.size w wr /\ ∀ i, i < k -> w.heap.size <= q' i) (fun i wr => n - (intOf i).toNat)
 case atStart => exact ⟨0, _, by omega, rfl, R0, B0, fun i hi => by omega⟩
 case round =>
  clear R0 B0
  obtain ⟨k, q', hk, rfl, R, hB, hq⟩ := hrel
  by_cases hlt : k < n
  . have H := h.below (hb0.trans (hB.mono hb0.size))
    have ok := h.rm.ok k hlt
    go_wp2_with fail
    refine (aFc H k hlt).mono ?_
    rintro e w1 ⟨rfl, rfl⟩
    have hb1 := aE (aI wr) (.cells (wl (t k)).toArray tC (0, 0))
    have a1 : jA (wr.alloc (.cells (wl (t k)).toArray tC (0, 0))) wr.heap.size tC (t k) := aD wr _
    have R2 := R.push hb1 (by omega) a1 ok (Nat.le_refl _)
    have hB2 := (tr hB hb1).setCell (p := ⟨w.heap.size, k, none⟩) (Nat.le_refl _) (.pointer (some ⟨wr.heap.size, 0, none⟩))
    have hf : (wr.alloc (.cells (wl (t k)).toArray tC (0, 0))).frozen? ⟨w.heap.size, k, none⟩ = false := aN (R.below hb1).room k
    have hc : ∃ v, (wr.alloc (.cells (wl (t k)).toArray tC (0, 0))).cell? ⟨w.heap.size, k, none⟩ = some v := by
     exact wF
    obtain ⟨v, hc⟩ := hc
    have hsz : w.heap.size <= wr.heap.size := hB.size
    have hq2 : ∀ i, i < k + 1 -> w.heap.size <= (fun i => if i = k then wr.heap.size else q' i) i := by
     exact uX
    have HR := Hd R2
    have HB := Hd hB2
    have HQ := Hd hq2
    clear R hB R2 hB2 hq hq2 a1 hb1 H
    generalize wr.alloc (.cells (wl (t k)).toArray tC (0, 0)) = W1 at *
    generalize wr.heap.size = r at *
    go_wp2_with fail
    go_roundw
    case rel => exact ⟨k + 1, _, by omega, by go_num, HR.out, HB.out, HQ.out⟩
    case measure => simp [intOf]; omega
  . obtain rfl : k = n := by omega
    have HR := Hd R
    clear R
    have hal : prog.arrayLen 251 = 8 := by kernel_rfl
    have hk8 : (k : Int) <= 8 := by omega
    go_wp2_with fail
    go_ret
    exact ⟨q', rfl, HR.out, hB, hq⟩
theorem aN1 (n : Nat) (n0 : 1 <= n) (n8 : n <= 8) (w : World) :
 Calls prog 47 #[.int .i64 n] w fun e w' => ∃ (p g : Nat) (q : Nat -> Nat), e = .returned (.tuple #[.pointer (some ⟨p, 0, none⟩), .int .i64 0]) /\ cI w' p g n q (fun _ => tz) /\ Below w.heap.size w w' /\ w.heap.size <= p /\ w.heap.size <= g /\ ∀ i, i < n -> w.heap.size <= q i := by
 go_enter func47, ntmps47
 go_wp2_with fail
 refine (aHd n8 w).mono ?_
 rintro e w1 ⟨q, rfl, R, hB, hq⟩
 have B1 := aE hB (.cells #[.slice (some ⟨w.heap.size, 0, none⟩) n n] tBk (0, 0))
 have K : cI (w1.alloc (.cells #[.slice (some ⟨w.heap.size, 0, none⟩) n n] tBk (0, 0))) w1.heap.size w.heap.size n q (fun _ => tz) := ⟨aD w1 _, R.below (aE (aI w1) _)⟩
 have hs := hB.size
 go_wp2_with fail
 go_ret2
 exact ⟨_, _, q, rfl, K, B1, hs, Nat.le_refl _, hq⟩
theorem aKP (n : Int) (h : n < 1 \/ 8 < n) (w : World) :
 Calls prog 47 #[.int .i64 n] w fun e w' => e = .returned (.tuple #[.pointer none, .int .i64 5]) /\ w = w' := by
 by_cases h0 : n < 1
 . go_enter func47, ntmps47
   exact iL
 . have h8 : 8 < n := by omega
   clear h
   go_enter func47, ntmps47
   exact iL
theorem aKA {n p g : Nat} {q : Nat -> Nat} {t : Nat -> Tm} {w : World} (h : cI w p g n q t) :
 Calls prog 130 #[.pointer (some ⟨p, 0, none⟩)] w fun e w' => ∃ (p' g' : Nat) (q' : Nat -> Nat), e = .returned (.pointer (some ⟨p', 0, none⟩)) /\ cI w' p' g' n q' t /\ Below w.heap.size w w' /\ w.heap.size <= p' /\ w.heap.size <= g' /\ ∀ i, i < n -> w.heap.size <= q' i := by
 have hmf : ∀ (fn : Fn) (first cap : Array Value) (w : World), (Instr.makeFunc fn first cap).run prog w = .ok (.func fn first cap) w := fun _ _ _ _ => rfl
 have n8 := h.rm.n8
 go_enter func130, ntmps130
 go_wp2_with fail
 refine (aDf h).mono ?_
 rintro e w1 ⟨rfl, rfl⟩
 go_wp2_with fail
 refine (aEy h n8 w (aI w)).mono ?_
 rintro e w1 ⟨q', rfl, R, hB, hq⟩
 have B1 := aE hB (.cells #[.slice (some ⟨w.heap.size, 0, none⟩) n n] tBk (0, 0))
 have K : cI (w1.alloc (.cells #[.slice (some ⟨w.heap.size, 0, none⟩) n n] tBk (0, 0))) w1.heap.size w.heap.size n q' t := ⟨aD w1 _, R.below (aE (aI w1) _)⟩
 have hs := hB.size
 go_wp2_with fail
 go_ret
 exact ⟨_, _, q', rfl, K, B1, hs, Nat.le_refl _, hq⟩
theorem aFw {t : Wd} {n : Int} (hen : t.en = true) (hf : t.fa = 0) (h : t.tot <= t.si + n) : t.tick n = { t with si := t.tot, fa := 2 } := by unfold Wd.tick; rw [if_pos ⟨hen, hf⟩, if_pos h]
theorem aIV {t : Wd} {n : Int} (hen : t.en = true) (hf : t.fa = 0) (h : ¬ t.tot <= t.si + n) : t.tick n = { t with si := t.si + n } := by unfold Wd.tick; rw [if_pos ⟨hen, hf⟩, if_neg h]
theorem aI2 {t : Wd} {n : Int} (hen : t.en = true) (hf : t.fa = 0) (h : t.tot <= t.si + n) : t.ran n = t.tot - t.si := by unfold Wd.ran; rw [if_neg (by simp [hf]), if_pos hen, if_pos h]
theorem aKH {t : Wd} {n : Int} (hen : t.en = true) (hf : t.fa = 0) (h : ¬ t.tot <= t.si + n) : t.ran n = n := by unfold Wd.ran; rw [if_neg (by simp [hf]), if_pos hen, if_neg h]
theorem aBW (t : Wd) (p : Nat) (w : World) (hen : t.en = true) (hf : t.fa = 0) (s0 : 0 <= t.si) (s1 : t.si <= t.tot) (t1 : t.tot < 4294967296) (a : dT w p t) :
 Calls prog 152 #[.pointer (some ⟨p, 0, none⟩)] w fun e w' => e = .returned (.int .u64 (t.tot - t.si)) /\ Below w.heap.size w w' := by
 have x0 := a.c0
 have x1 := a.c1
 have x2 := a.c2
 have hr := aJa t w
 rw [decide_eq_true (show t.en = true /\ t.fa = 0 from ⟨hen, hf⟩)] at hr
 have hr := Hd hr
 clear hen hf
 go_enter func152, ntmps152
 go_wp2_with fail
 refine (hr.out).mono ?_
 rintro e w1 ⟨rfl, hb⟩
 have a1 := a.below hb
 clear hr x0 x1 x2 a
 have x4 := a1.c4
 have x5 := a1.c5
 go_wp2_with fail
 have hg := bI
 have hl := a1.lt
 exact mY
theorem aNn (t : Wd) (n : Int) (p : Nat) (w : World) (h : t.ok) (a : dT w p t) (n0 : 0 <= n) (n1 : n < 18446744073709551616) :
 Calls prog 111 #[.pointer (some ⟨p, 0, none⟩), .int .u64 n] w fun e w' => e = .returned (.int .u64 (t.ran n)) /\ dT w' p (t.tick n) /\ aF (· = p) w w' := by
 have F := Hd (fun w a => aBs t p w a)
 have E := Hd (fun w a => aAK t p w a)
 by_cases hf : t.fa = 0
 . have qf : (t.fa != 0) = false := by simp [hf]
   obtain ⟨en, hen⟩ : ∃ b, t.en = b := ⟨_, rfl⟩
   rw [hen] at E
   cases en
   . have e1 : t.tick n = t := by unfold Wd.tick; rw [if_neg (by rw [hen]; simp)]
     have e2 : t.ran n = n := by unfold Wd.ran; rw [if_neg (by simp [hf]), if_neg (by rw [hen]; simp)]
     rw [e1, e2]
     go_enter func111, ntmps111
     go_wp2_with fail
     refine (F.out _ a).mono ?_
     rintro e w' ⟨rfl, rfl⟩
     go_wp2_with fail
     refine (E.out _ a).mono ?_
     exact mX
   . have hlt := h.run hen hf
     have s0 := h.s0
     have t1 := h.t1
     obtain ⟨R, hR⟩ : ∃ R, t.tick n = R := ⟨_, rfl⟩
     obtain ⟨V, hV⟩ : ∃ V, t.ran n = V := ⟨_, rfl⟩
     rw [hR, hV]
     have HR := Hd hR
     have HV := Hd hV
     have L := Hd (fun w a => aBW t p w hen hf s0 (by omega) t1 a)
     clear hR hV h
     by_cases hge : t.tot <= t.si + n
     . have hv : V = t.tot - t.si := by rw [<- HV.out, aI2 hen hf hge]
       have hr : R = { t with si := t.tot, fa := 2 } := by rw [<- HR.out, aFw hen hf hge]
       have hm : min n (t.tot - t.si) = t.tot - t.si := by omega
       have hs : t.si + (t.tot - t.si) = t.tot := by omega
       have L2 := Hd (fun w a => by have := aBW { t with si := t.tot } p w hen hf (by show 0 <= t.tot; omega) (Int.le_refl _) t1 a; rw [show t.tot - t.tot = 0 by omega] at this; exact this)
       rw [hv, hr]
       clear hv hr HR HV hen hf
       have hn : n = t.tot - t.si \/ ¬ n <= t.tot - t.si := by omega
       rcases hn with rfl | hn
       all_goals
        go_enter func111, ntmps111
        go_wp2_with fail
        refine (F.out _ a).mono ?_
        rintro e w' ⟨rfl, rfl⟩
        go_wp2_with fail
        refine (E.out _ a).mono ?_
        rintro e w' ⟨rfl, rfl⟩
        go_wp2_with fail
        refine (L.out _ a).mono ?_
        rintro e w1 ⟨rfl, hb⟩
        have A := a.below hb
        have ho := aF.ofBelow (S := (· = p)) hb
        have x5 := A.c5
        have f5 := A.free 5
        clear a hb L F E
        go_wp2_with fail
        have A1 := A.s5 t.tot
        have ho1 := ho.trans (aG w1 p 5 (.int .u64 t.tot))
        clear A ho x5 f5
        generalize w1.setCell ⟨p, 5, none⟩ (.int .u64 t.tot) = W1 at *
        refine (L2.out _ A1).mono ?_
        rintro e w2 ⟨rfl, hb⟩
        have A := A1.below hb
        have ho := ho1.trans (aF.ofBelow (S := (· = p)) hb)
        clear A1 hb L2 ho1
        have x2 := A.c2
        have f2 := A.free 2
        go_wp2_with fail
        go_ret
        exact ⟨rfl, A.s2 2, ho.trans (aG _ _ _ _)⟩
     . have hv : V = n := by rw [<- HV.out, aKH hen hf hge]
       have hr : R = { t with si := t.si + n } := by rw [<- HR.out, aIV hen hf hge]
       have hm : min n (t.tot - t.si) = n := by omega
       have L2 := Hd (fun w a => aBW { t with si := t.si + n } p w hen hf (by show 0 <= t.si + n; omega) (by show t.si + n <= t.tot; omega) t1 a)
       have hq : (t.tot - (t.si + n) == 0) = false := by simp; omega
       rw [hv, hr]
       clear hv hr HR HV hen hf
       go_enter func111, ntmps111
       go_wp2_with fail
       refine (F.out _ a).mono ?_
       rintro e w' ⟨rfl, rfl⟩
       go_wp2_with fail
       refine (E.out _ a).mono ?_
       rintro e w' ⟨rfl, rfl⟩
       go_wp2_with fail
       refine (L.out _ a).mono ?_
       rintro e w1 ⟨rfl, hb⟩
       have A := a.below hb
       have ho := aF.ofBelow (S := (· = p)) hb
       have x5 := A.c5
       have f5 := A.free 5
       clear a hb L F E
       go_wp2_with fail
       have A1 := A.s5 (t.si + n)
       have ho1 := ho.trans (aG w1 p 5 (.int .u64 (t.si + n)))
       clear A ho x5 f5
       generalize w1.setCell ⟨p, 5, none⟩ (.int .u64 (t.si + n)) = W1 at *
       refine (L2.out _ A1).mono ?_
       rintro e w2 ⟨rfl, hb⟩
       have A := A1.below hb
       have ho := ho1.trans (aF.ofBelow (S := (· = p)) hb)
       clear A1 hb L2 ho1
       have x2 := A.c2
       have f2 := A.free 2
       go_wp2_with fail
       go_ret
       exact ⟨rfl, A, ho⟩
 . have qf : (t.fa != 0) = true := by simp [hf]
   have e1 : t.tick n = t := by unfold Wd.tick; rw [if_neg (fun e => hf e.2)]
   have e2 : t.ran n = 0 := by unfold Wd.ran; rw [if_pos hf]
   rw [e1, e2]
   go_enter func111, ntmps111
   go_wp2_with fail
   refine (F.out _ a).mono ?_
   exact mX
theorem iD : (prog.info? 180).map (·.size) = some 7 := by kernel_rfl
theorem aKc (t : Wd) : ∀ x ∈ dl t, x.oneCell' = true := by
 intro x h
 simp only [dl, List.mem_cons, List.not_mem_nil, or_false] at h
 exact rA
theorem dT.row {old : Array Value} {w : World} {b : Nat} (h : w.heap[b]? = some (.cells old tD (0, 0))) (t : Wd) : dT (w.setRow b (dl t).toArray) b t := aT _ h
section
variable {ops : Array Oper} {rest : List Oper} {o : Oper} {a : Act} {w : World} {Q : Exit -> Act -> World -> Prop}
theorem aMv (hgd : o.guard = none) (x : Operand) (ho : o.op = .load 180 x) {b : Nat} (hx : a.eval x = .pointer (some ⟨b, 0, none⟩)) {t : Wd} (hg : dT w b t)
 (h : wpList prog ops Q rest (a.put o.dst (.agg (dl t).toArray)) w) : wpList prog ops Q (o :: rest) a w :=
 aL hgd _ x ho b 0 hx _ (dl t) hg underlying180 rfl iD (aM _) h
theorem aF7 (hgd : o.guard = none) (x y : Operand) (ho : o.op = .store 180 x y) {b : Nat} (hx : a.eval x = .pointer (some ⟨b, 0, none⟩)) {t : Wd} (hy : a.eval y = .agg (dl t).toArray) {t' : Wd} (hg : dT w b t')
 (h : wpList prog ops Q rest (a.put o.dst undef) (w.setRow b (dl t).toArray)) : wpList prog ops Q (o :: rest) a w := by
 refine aH hgd _ x y ho b 0 hx (dl t) hy hg iD (by simp [dl]) (aKc _) ?_
 rw [aV _ _ (by simp [dl])]
 exact h
end
theorem aK9 (t : Wd) (p : Nat) (w : World) (a : dT w p t) :
 Calls prog 273 #[.pointer (some ⟨p, 0, none⟩)] w fun e w' => e = .returned (.tuple #[]) /\ dT w' p wz /\ aF (· = p) w w' := by
 go_enter func273, ntmps273
 go_wp2_with (refine aF7 rfl (.tmp 6) (.tmp 5) rfl rfl (t := wz) rfl a ?_)
 go_end0
 exact ⟨rfl, dT.row a wz, oP _ _ _⟩
theorem aJn (t : Wd) (p : Nat) (w : World) (a : dT w p t) :
 Calls prog 131 #[.pointer (some ⟨p, 0, none⟩)] w fun e w' => e = .returned (.pointer (some ⟨w.heap.size, 0, none⟩)) /\ dT w' w.heap.size t /\ Below w.heap.size w w' := by
 have ha := a.lt
 have hb := aE (aI w) (.cells (dl wz).toArray tD (0, 0))
 have Y : dT (w.alloc (.cells (dl wz).toArray tD (0, 0))) w.heap.size wz := aD w _
 have Z := dT.row Y t
 have hB := aB hb (dl t).toArray (g := w.heap.size) (Nat.le_refl _)
 go_enter func131, ntmps131
 go_wp2_with (first | (refine aMv rfl (.tmp 7) rfl rfl a ?_) | (refine aF7 rfl (.tmp 3) (.tmp 8) rfl rfl (t := t) rfl Y ?_))
 go_ret
 exact ⟨rfl, Z, hB⟩
end Go.Proofs.YtpojmmgokgamgaaGreat.B
