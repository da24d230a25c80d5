/- A part of the proof of a law of layer 12: an. -/
import Derived.Test.YtaohacadochldaaGreatZNam
import Derived.Shelf.SlMaps.Clone
set_option linter.unusedVariables false
set_option linter.unusedSimpArgs false
set_option maxHeartbeats 12800000
set_option maxRecDepth 100000
namespace Go.Proofs.YtaohacadochldaaGreat.B
open Go.Proofs.Tryz
open Go.ChangeShapes Go.WideShapes Go.RowKit Go.Sort Go.MapKept
theorem qO (v : Int) (v0 : 0 <= v) : field v 0 1 = v % 2 := by
 unfold field pW
 simp
 omega
def gF (W : World) (x : Nat) (k h : Int) : Prop := W.heap[x]? = some (.cells #[.int .i64 k, .int .i64 h] 291 (0, 0))
theorem gF.c0 {W : World} {x : Nat} {k h : Int} (a : gF W x k h) : W.cell? ⟨x, 0, none⟩ = some (.int .i64 k) := by have := aA a 0; simpa using this
theorem gF.c1 {W : World} {x : Nat} {k h : Int} (a : gF W x k h) : W.cell? ⟨x, 1, none⟩ = some (.int .i64 h) := by have := aA a 1; simpa using this
theorem gF.lt {W : World} {x : Nat} {k h : Int} (a : gF W x k h) : x < W.heap.size := lt_of_block a
theorem qK (v t : Int) (h n : Nat) (D S : Nat -> Int) (p m : Nat) (w : World) (hc : bD w p m t n D S) (hn : h < n) (v0 : 0 <= v) (v1 : v < 4294967296) :
 Calls prog 269 #[.pointer (some ⟨p, 0, none⟩), .int .u32 (4 * (h : Int)), .int .u32 v] w
  fun e w' => e = .returned (.int .i64 0) /\ bD w' p m t n D (upd S h (v % 2)) /\ aD (· = p) w w' := by
 have n8 := hc.n1
 have hh : h < 8 := by omega
 go_enter func269, ntmps269
 go_wp2_with fail
 refine (oG (4 * (h : Int)) t 0 h n D S p m _ hc (by omega) (ne4 (by omega)) (oU hn)).mono ?_
 rintro e w1 ⟨rfl, hb⟩
 have H := Hd (hc.below (aO hb (.cells #[.int .i64 0, .int .i64 h] 291)))
 have X := aF w1 (.cells #[.int .i64 0, .int .i64 h] 291)
 have HB := Hd (aO hb (.cells #[.int .i64 0, .int .i64 h] 291))
 clear hc hb
 go_upto_region 2 with (fail)
 generalize (w1.alloc (.cells #[.int .i64 0, .int .i64 h] 291)) = W at *
 generalize w1.heap.size = x at *
 have R : gF W x 0 h := X
 have x0 := R.c0
 have x1 := R.c1
 have hx := R.lt
 clear X R
 have hp := H.out.ltp
 have cS := H.out.cS h hh
 have fS := H.out.free (10 + h)
 have hg := bP
 have hf := bF
 go_wp2_with fail
 refine aE 8 (by kernel_rfl) (by kernel_rfl) ?_
 simp only [List.take_succ_cons, List.take_zero, List.drop_succ_cons, List.drop_zero]
 repeat (go_big_quiet_step (first | (go_at_call 246; exact Calls.regrown_of ((Field v 0 1 _ v0 v1 (by omega) (by omega)).mono fun _ _ g => ⟨g.1, by obtain ⟨_, j, rfl⟩ := g; exact nS (aT _) _⟩))))
 refine wpQuiet_nil ?_
 intro _ hw'
 obtain ⟨⟨dq, osq⟩, hw''⟩ := hw'
 subst hw''
 have hb2 := below_regrown W dq osq
 have E := Hd (qO v v0)
 have H2 := Hd ((H.out.below hb2).setS h (v := v % 2) hh (by omega) (by omega))
 have O2 := Hd (((aD.ofBelow (S := (· = p)) (tr HB.out hb2))).trans (aG _ p (10 + h) (.int .u32 (v % 2))))
 go_wp2_with fail
 go_ret
 rw [E.out]
 exact ⟨rfl, H2.out, O2.out⟩
theorem sS (v t : Int) (h n : Nat) (D S : Nat -> Int) (p m : Nat) (w : World) (hc : bD w p m t n D S) (hn : h < n) (v0 : 0 <= v) (v1 : v < 4294967296) :
 Calls prog 269 #[.pointer (some ⟨p, 0, none⟩), .int .u32 (16384 + 8 * (h : Int)), .int .u32 v] w
  fun e w' => e = .returned (.int .i64 0) /\ bD w' p m t n (upd D h (aV (hi (D h)) v)) S /\ aD (· = p) w w' := by
 have n8 := hc.n1
 have hh : h < 8 := by omega
 go_enter func269, ntmps269
 go_wp2_with fail
 refine (oG (16384 + 8 * (h : Int)) t 1 h n D S p m _ hc (by omega) (ne4 (by omega)) (rT hn)).mono ?_
 rintro e w1 ⟨rfl, hb⟩
 have H := Hd (hc.below (aO hb (.cells #[.int .i64 1, .int .i64 h] 291)))
 have X := aF w1 (.cells #[.int .i64 1, .int .i64 h] 291)
 have HB := Hd (aO hb (.cells #[.int .i64 1, .int .i64 h] 291))
 clear hc hb
 go_upto_region 2 with (fail)
 generalize (w1.alloc (.cells #[.int .i64 1, .int .i64 h] 291)) = W at *
 generalize w1.heap.size = x at *
 have R : gF W x 1 h := X
 have x0 := R.c0
 have x1 := R.c1
 have hx := R.lt
 clear X R
 have hp := H.out.ltp
 have cD := H.out.cD h hh
 obtain ⟨d0, d1⟩ := H.out.d h
 have fS := H.out.free (2 + h)
 have hg := bP
 have hf := bF
 go_wp2_with fail
 refine aE 16 (by kernel_rfl) (by kernel_rfl) ?_
 simp only [List.take_succ_cons, List.take_zero, List.drop_succ_cons, List.drop_zero]
 repeat (go_big_quiet_step (first | (go_at_call 56; exact Calls.regrown_of ((Hi _ _ d0 d1).mono fun _ _ g => ⟨g.1, g.2 ▸ aT _⟩)) | (go_at_call 273; exact Calls.regrown_of ((uM _ _ _ (eB d0) (oO d1) v0 v1).mono fun _ _ g => ⟨g.1, g.2 ▸ aT _⟩))))
 refine wpQuiet_nil ?_
 intro _ hw'
 obtain ⟨⟨dq, osq⟩, hw''⟩ := hw'
 subst hw''
 have hb2 := below_regrown W dq osq
 have vb := cI (eB d0) (oO d1) v0 v1
 have H2 := Hd ((H.out.below hb2).setD h (v := aV (hi (D h)) v) hh vb.1 vb.2)
 have O2 := Hd (((aD.ofBelow (S := (· = p)) (tr HB.out hb2))).trans (aG _ p (2 + h) (.int .u64 (aV (hi (D h)) v))))
 clear vb
 go_wp2_with fail
 go_ret
 exact ⟨rfl, H2.out, O2.out⟩
theorem qJ (v t : Int) (h n : Nat) (D S : Nat -> Int) (p m : Nat) (w : World) (hc : bD w p m t n D S) (hn : h < n) (v0 : 0 <= v) (v1 : v < 4294967296) :
 Calls prog 269 #[.pointer (some ⟨p, 0, none⟩), .int .u32 (16384 + 8 * (h : Int) + 4), .int .u32 v] w
  fun e w' => e = .returned (.int .i64 0) /\ bD w' p m t n (upd D h (aV v (lo (D h)))) S /\ aD (· = p) w w' := by
 have n8 := hc.n1
 have hh : h < 8 := by omega
 go_enter func269, ntmps269
 go_wp2_with fail
 refine (oG (16384 + 8 * (h : Int) + 4) t 2 h n D S p m _ hc (by omega) (ne4 (by omega)) (oR hn)).mono ?_
 rintro e w1 ⟨rfl, hb⟩
 have H := Hd (hc.below (aO hb (.cells #[.int .i64 2, .int .i64 h] 291)))
 have X := aF w1 (.cells #[.int .i64 2, .int .i64 h] 291)
 have HB := Hd (aO hb (.cells #[.int .i64 2, .int .i64 h] 291))
 clear hc hb
 go_upto_region 2 with (fail)
 generalize (w1.alloc (.cells #[.int .i64 2, .int .i64 h] 291)) = W at *
 generalize w1.heap.size = x at *
 have R : gF W x 2 h := X
 have x0 := R.c0
 have x1 := R.c1
 have hx := R.lt
 clear X R
 have hp := H.out.ltp
 have cD := H.out.cD h hh
 obtain ⟨d0, d1⟩ := H.out.d h
 have fS := H.out.free (2 + h)
 have hg := bP
 have hf := bF
 go_wp2_with fail
 refine aE 16 (by kernel_rfl) (by kernel_rfl) ?_
 simp only [List.take_succ_cons, List.take_zero, List.drop_succ_cons, List.drop_zero]
 repeat (go_big_quiet_step (first | (go_at_call 55; exact Calls.regrown_of ((Lo _ _ d0 d1).mono fun _ _ g => ⟨g.1, g.2 ▸ aT _⟩)) | (go_at_call 273; exact Calls.regrown_of ((uM _ _ _ v0 v1 (cW _) (lZ _)).mono fun _ _ g => ⟨g.1, g.2 ▸ aT _⟩))))
 refine wpQuiet_nil ?_
 intro _ hw'
 obtain ⟨⟨dq, osq⟩, hw''⟩ := hw'
 subst hw''
 have hb2 := below_regrown W dq osq
 have vb := cI v0 v1 (cW (D h)) (lZ (D h))
 have H2 := Hd ((H.out.below hb2).setD h (v := aV v (lo (D h))) hh vb.1 vb.2)
 have O2 := Hd (((aD.ofBelow (S := (· = p)) (tr HB.out hb2))).trans (aG _ p (2 + h) (.int .u64 (aV v (lo (D h))))))
 clear vb
 go_wp2_with fail
 go_ret
 exact ⟨rfl, H2.out, O2.out⟩
theorem lS (o v t : Int) (n : Nat) (D S : Nat -> Int) (p m : Nat) (w : World) (hc : bD w p m t n D S) (E : Int) (hE : (E != 0) = true) (hE2 : (E == 0) = false)
 (hf : Calls prog 271 #[.pointer (some ⟨p, 0, none⟩), .int .u32 o] w fun e w' => e = .returned (.tuple #[.agg #[.int .i64 0, .int .i64 0], .int .i64 E]) /\ Below w.heap.size w w') :
 Calls prog 269 #[.pointer (some ⟨p, 0, none⟩), .int .u32 o, .int .u32 v] w
  fun e w' => e = .returned (.int .i64 E) /\ bD w' p m t n D S /\ aD (· = p) w w' := by
 have HF := Hd hf
 clear hf
 go_enter func269, ntmps269
 go_wp2_with fail
 refine HF.out.mono ?_
 rintro e w1 ⟨rfl, hb⟩
 have H := Hd (hc.below (aO hb (.cells #[.int .i64 0, .int .i64 0] 291)))
 have O := Hd (aD.ofBelow (S := (· = p)) (aO hb (.cells #[.int .i64 0, .int .i64 0] 291)))
 clear hc hb
 go_wp2_with fail
 go_ret
 exact ⟨rfl, H.out, O.out⟩
theorem jF (o v t : Int) (k n : Nat) (D S : Nat -> Int) (p m : Nat) (w : World) (hc : bD w p m t n D S) (hk : k = 3 \/ k = 4) (o0 : 0 <= o) (o4 : (o % 4 != 0) = false) (hin : (o, bN k (0 : Nat)) ∈ iF n) :
 Calls prog 269 #[.pointer (some ⟨p, 0, none⟩), .int .u32 o, .int .u32 v] w
  fun e w' => e = .returned (.int .i64 12) /\ bD w' p m t n D S /\ aD (· = p) w w' := by
 rcases hk with rfl | rfl
 all_goals
  go_enter func269, ntmps269
  go_wp2_with fail
  refine (oG o t _ _ n D S p m _ hc o0 o4 hin).mono ?_
  rintro e w1 ⟨rfl, hb⟩
  go_wp2_with fail
  go_ret
  exact ⟨rfl, hc.below (aO hb _), aD.ofBelow (aO hb _)⟩
theorem aBC (o v t : Int) (n : Nat) (D S : Nat -> Int) (p m : Nat) (w : World) (hc : bD w p m t n D S) (o0 : 0 <= o) (o1 : o < 4294967296) (v0 : 0 <= v) (v1 : v < 4294967296) :
 Calls prog 269 #[.pointer (some ⟨p, 0, none⟩), .int .u32 o, .int .u32 v] w
  fun e w' => e = .returned (.int .i64 (cG n o)) /\ bD w' p m t n (dE n D o v) (dF n S o v) /\ aD (· = p) w w' := by
 have n8 := hc.n1
 rcases uR n o with h | h | h | ⟨h, hn, e⟩ | ⟨h, hn, e⟩ | ⟨h, hn, e⟩ | ⟨h4, h1, h2, h⟩
 . have he : cG n o = 11 := by rw [oJ (by rw [iU h]; omega), iU h]
   rw [he, eT (by rw [he]; omega), eU (by rw [he]; omega)]
   exact lS o v t n D S p m w hc 11 rfl rfl (oH o p w o0 (by simpa using h))
 . subst h; rw [nI, eT (by rw [nI]; omega), eU (by rw [nI]; omega)]; exact jF _ v t 3 n D S p m w hc (.inl rfl) o0 (by decide) (wQ n)
 . subst h; rw [mW, eT (by rw [mW]; omega), eU (by rw [mW]; omega)]; exact jF _ v t 4 n D S p m w hc (.inr rfl) o0 (by decide) (wP n)
 . subst e; rw [mH hn n8, uC hn n8, uD hn n8]; exact qK v t h n D S p m w hc hn v0 v1
 . subst e; rw [jS hn n8, oX hn n8, oY hn]; exact sS v t h n D S p m w hc hn v0 v1
 . subst e; rw [iB hn n8, lW hn n8, lX hn]; exact qJ v t h n D S p m w hc hn v0 v1
 . have hr := pB (n := n) o0 h4 h1 h2 h
   have he : cG n o = 10 := by rw [oJ (by rw [hr]; omega), hr]
   rw [he, eT (by rw [he]; omega), eU (by rw [he]; omega)]
   exact lS o v t n D S p m w hc 10 rfl rfl (lR o t n D S p m w hc o0 o1 (by simpa using h4) (oT n o h1 h2 h))
def rmO : Obj := .cells (rm 0 (fun _ => 0)).toArray tRm (0, 0)
theorem aBy : Obj.cells #[.pointer none, .pointer none, .pointer none, .pointer none, .pointer none, .pointer none, .pointer none, .pointer none] tRm (0, 0) = rmO := rfl
theorem cT.push {w w' : World} {g k r : Nat} {q : Nat -> Nat} {t : Nat -> Tm} (h : cT w g k q t) (hb : Below w.heap.size w w') (hk : k < 8) (a : dT w' r tC (t k)) (o : (t k).ok) (hr : w.heap.size <= r) :
 cT (w'.setCell ⟨g, k, none⟩ (.pointer (some ⟨r, 0, none⟩))) g (k + 1) (fun i => if i = k then r else q i) t := by
 have h' := h.below hb
 have hrg : r ≠ g := by have := h.lt; omega
 refine ⟨?_, ?_, ?_, ?_, by omega⟩
 . rw [aK h'.room, sE, show Value.pointer (some ⟨r, 0, none⟩) = dM r from rfl, aBz k q r hk]
 . intro i hi
   by_cases e : i = k
   . subst e; rw [if_pos rfl]; exact a.other _ _ _ hrg
   . rw [if_neg e]; exact (h'.tms i (by omega)).other _ _ _ (h'.gne (by omega))
 . intro i hi
   by_cases e : i = k
   . subst e; exact o
   . exact h.ok i (by omega)
 . intro i j hi hj e
   by_cases ei : i = k <;> by_cases ej : j = k
   . rw [ei, ej]
   . rw [if_pos ei, if_neg ej] at e; have := h.ltq (show j < k by omega); omega
   . rw [if_neg ei, if_pos ej] at e; have := h.ltq (show i < k by omega); omega
   . rw [if_neg ei, if_neg ej] at e; exact h.one i j (by omega) (by omega) e
theorem xX (w : World) (t : Nat -> Tm) : cT (w.alloc rmO) w.heap.size 0 (fun _ => 0) t :=
 ⟨aF w rmO, fun i hi => by omega, fun i hi => by omega, fun i j hi => by omega, by omega⟩
theorem aCV (i : Int) (w : World) : Calls prog 178 #[.int .i64 i] w fun e w' => e = .returned (.pointer (some ⟨w.heap.size, 0, none⟩)) /\ w' = w.alloc (.cells (wl tz).toArray tC (0, 0)) := by
 go_enter func178, ntmps178
 go_wp2_with fail
 refine (aDq w).mono ?_
 rintro e w1 ⟨rfl, rfl⟩
 exact aI
theorem zL {n : Nat} (n8 : n <= 8) (w : World) :
 Calls prog 177 #[.int .i64 n, .func (.func 178) #[] #[]] w fun e w' => ∃ q' : Nat -> Nat, e = .returned (.slice (some ⟨w.heap.size, 0, none⟩) n n) /\ cT w' w.heap.size n q' (fun _ => tz) /\ Below w.heap.size w w' /\ ∀ i, i < n -> w.heap.size <= q' i := by
 have R0 := xX w (fun _ => tz)
 have B0 := aO (aT w) rmO
 go_enter func177, ntmps177
 go_upto_region 2 with (fail)
 rw [aBy]
 generalize w.alloc rmO = W at *
 go_wp2_with fail
 go_loopw [8] (fun i wr => ∃ (k : Nat) (q' : Nat -> Nat), k <= n /\ i = .int .i64 k /\ cT wr w.heap.size k q' (fun _ => tz) /\ Below w.heap.size w wr /\ ∀ i, i < k -> w.heap.size <= q' i) (fun i wr => n - (intOf i).toNat)
 case atStart => exact ⟨0, _, by omega, rfl, R0, B0, fun i hi => by omega⟩
 case round =>
  clear R0 B0
  obtain ⟨k, q', hk, rfl, R, hB, hq⟩ := hrel
  by_cases hlt : k < n
  . skip
    go_wp2_with fail
    refine (aCV k wr).mono ?_
    rintro e w1 ⟨rfl, rfl⟩
    have hb1 := aO (aT wr) (.cells (wl tz).toArray tC (0, 0))
    have a1 : dT (wr.alloc (.cells (wl tz).toArray tC (0, 0))) wr.heap.size tC tz := aF wr _
    have R2 := R.push hb1 (by omega) a1 sK (Nat.le_refl _)
    have hB2 := (tr hB hb1).setCell (p := ⟨w.heap.size, k, none⟩) (Nat.le_refl _) (.pointer (some ⟨wr.heap.size, 0, none⟩))
    have hf : (wr.alloc (.cells (wl tz).toArray tC (0, 0))).frozen? ⟨w.heap.size, k, none⟩ = false := aH (R.below hb1).room k
    have hc : ∃ v, (wr.alloc (.cells (wl tz).toArray tC (0, 0))).cell? ⟨w.heap.size, k, none⟩ = some v := by
     rw [aA (R.below hb1).room k]
     have : k < (rm k q').length := by rw [nO]; omega
     rw [List.getElem?_toArray]
     exact ⟨_, List.getElem?_eq_getElem this⟩
    obtain ⟨v, hc⟩ := hc
    have hsz : w.heap.size <= wr.heap.size := hB.size
    have hq2 : ∀ i, i < k + 1 -> w.heap.size <= (fun i => if i = k then wr.heap.size else q' i) i := by
     intro i hi
     by_cases e : i = k
     . subst e; show w.heap.size <= (if i = i then wr.heap.size else q' i); rw [if_pos rfl]; exact hsz
     . show w.heap.size <= (if i = k then wr.heap.size else q' i); rw [if_neg e]; exact hq i (by omega)
    have HR := Hd R2
    have HB := Hd hB2
    have HQ := Hd hq2
    clear R hB R2 hB2 hq hq2 a1 hb1 
    generalize wr.alloc (.cells (wl tz).toArray tC (0, 0)) = W1 at *
    generalize wr.heap.size = r at *
    go_wp2_with fail
    go_roundw
    case rel => exact ⟨k + 1, _, by omega, by go_num, HR.out, HB.out, HQ.out⟩
    case measure => simp [intOf]; omega
  . obtain rfl : k = n := by omega
    have HR := Hd R
    clear R
    have hal : prog.arrayLen 296 = 8 := by kernel_rfl
    have hk8 : (k : Int) <= 8 := by omega
    go_wp2_with fail
    go_ret
    exact ⟨q', rfl, HR.out, hB, hq⟩
theorem aDc (n : Nat) (n0 : 1 <= n) (n8 : n <= 8) (w : World) :
 Calls prog 98 #[.int .i64 n] w fun e w' => ∃ (p g : Nat) (q : Nat -> Nat), e = .returned (.tuple #[.pointer (some ⟨p, 0, none⟩), .int .i64 0]) /\ bG w' p g n q (fun _ => tz) /\ Below w.heap.size w w' /\ w.heap.size <= p /\ w.heap.size <= g /\ ∀ i, i < n -> w.heap.size <= q i := by
 go_enter func98, ntmps98
 go_wp2_with fail
 refine (zL n8 w).mono ?_
 rintro e w1 ⟨q, rfl, R, hB, hq⟩
 have B1 := aO hB (.cells #[.slice (some ⟨w.heap.size, 0, none⟩) n n] tBk (0, 0))
 have K : bG (w1.alloc (.cells #[.slice (some ⟨w.heap.size, 0, none⟩) n n] tBk (0, 0))) w1.heap.size w.heap.size n q (fun _ => tz) := ⟨aF w1 _, R.below (aO (aT w1) _)⟩
 have hs := hB.size
 go_wp2_with fail
 go_ret2
 exact ⟨_, _, q, rfl, K, B1, hs, Nat.le_refl _, hq⟩
theorem yP {t : Wd} {n : Int} (hen : t.en = true) (hf : t.fa = 0) (h : t.tot <= t.si + n) : t.tick n = { t with si := t.tot, fa := 2 } := by unfold Wd.tick; rw [if_pos ⟨hen, hf⟩, if_pos h]
theorem aAZ {t : Wd} {n : Int} (hen : t.en = true) (hf : t.fa = 0) (h : ¬ t.tot <= t.si + n) : t.tick n = { t with si := t.si + n } := by unfold Wd.tick; rw [if_pos ⟨hen, hf⟩, if_neg h]
theorem aAM {t : Wd} {n : Int} (hen : t.en = true) (hf : t.fa = 0) (h : t.tot <= t.si + n) : t.ran n = t.tot - t.si := by unfold Wd.ran; rw [if_neg (by simp [hf]), if_pos hen, if_pos h]
theorem aBu {t : Wd} {n : Int} (hen : t.en = true) (hf : t.fa = 0) (h : ¬ t.tot <= t.si + n) : t.ran n = n := by unfold Wd.ran; rw [if_neg (by simp [hf]), if_pos hen, if_neg h]
theorem qL (t : Wd) (p : Nat) (w : World) (hen : t.en = true) (hf : t.fa = 0) (s0 : 0 <= t.si) (s1 : t.si <= t.tot) (t1 : t.tot < 4294967296) (a : bR w p t) :
 Calls prog 165 #[.pointer (some ⟨p, 0, none⟩)] w fun e w' => e = .returned (.int .u64 (t.tot - t.si)) /\ Below w.heap.size w w' := by
 have x0 := a.c0
 have x1 := a.c1
 have x2 := a.c2
 have hr := aCi t w
 rw [decide_eq_true (show t.en = true /\ t.fa = 0 from ⟨hen, hf⟩)] at hr
 have hr := Hd hr
 clear hen hf
 go_enter func165, ntmps165
 go_wp2_with fail
 refine (hr.out).mono ?_
 rintro e w1 ⟨rfl, hb⟩
 have a1 := a.below hb
 clear hr x0 x1 x2 a
 have x4 := a1.c4
 have x5 := a1.c5
 go_wp2_with fail
 have hg := bP
 have hl := a1.lt
 refine wp_region_quiet_below (by kernel_rfl) (by kernel_rfl) ?_
 repeat (go_big_quiet_step (fail))
 refine wpQuiet_nil ?_
 intro _ hw'
 obtain ⟨⟨dq, osq⟩, hw''⟩ := hw'
 subst hw''
 go_wp2_with fail
 go_ret
 exact ⟨rfl, trG hb _ _⟩
theorem aCj (t : Wd) (n : Int) (p : Nat) (w : World) (h : t.ok) (a : bR w p t) (n0 : 0 <= n) (n1 : n < 18446744073709551616) :
 Calls prog 135 #[.pointer (some ⟨p, 0, none⟩), .int .u64 n] w fun e w' => e = .returned (.int .u64 (t.ran n)) /\ bR w' p (t.tick n) /\ aD (· = p) w w' := by
 have F := Hd (fun w a => vL t p w a)
 have E := Hd (fun w a => vK t p w a)
 by_cases hf : t.fa = 0
 . have qf : (t.fa != 0) = false := by simp [hf]
   obtain ⟨en, hen⟩ : ∃ b, t.en = b := ⟨_, rfl⟩
   rw [hen] at E
   cases en
   . have e1 : t.tick n = t := by unfold Wd.tick; rw [if_neg (by rw [hen]; simp)]
     have e2 : t.ran n = n := by unfold Wd.ran; rw [if_neg (by simp [hf]), if_neg (by rw [hen]; simp)]
     rw [e1, e2]
     go_enter func135, ntmps135
     go_wp2_with fail
     refine (F.out _ a).mono ?_
     rintro e w' ⟨rfl, rfl⟩
     go_wp2_with fail
     refine (E.out _ a).mono ?_
     exact fB
   . have hlt := h.run hen hf
     have s0 := h.s0
     have t1 := h.t1
     obtain ⟨R, hR⟩ : ∃ R, t.tick n = R := ⟨_, rfl⟩
     obtain ⟨V, hV⟩ : ∃ V, t.ran n = V := ⟨_, rfl⟩
     rw [hR, hV]
     have HR := Hd hR
     have HV := Hd hV
     have L := Hd (fun w a => qL t p w hen hf s0 (by omega) t1 a)
     clear hR hV h
     by_cases hge : t.tot <= t.si + n
     . have hv : V = t.tot - t.si := by rw [<- HV.out, aAM hen hf hge]
       have hr : R = { t with si := t.tot, fa := 2 } := by rw [<- HR.out, yP hen hf hge]
       have hm : min n (t.tot - t.si) = t.tot - t.si := by omega
       have hs : t.si + (t.tot - t.si) = t.tot := by omega
       have L2 := Hd (fun w a => by have := qL { t with si := t.tot } p w hen hf (by show 0 <= t.tot; omega) (Int.le_refl _) t1 a; rw [show t.tot - t.tot = 0 by omega] at this; exact this)
       rw [hv, hr]
       clear hv hr HR HV hen hf
       have hn : n = t.tot - t.si \/ ¬ n <= t.tot - t.si := by omega
       rcases hn with rfl | hn
       all_goals
        go_enter func135, ntmps135
        go_wp2_with fail
        refine (F.out _ a).mono ?_
        rintro e w' ⟨rfl, rfl⟩
        go_wp2_with fail
        refine (E.out _ a).mono ?_
        rintro e w' ⟨rfl, rfl⟩
        go_wp2_with fail
        refine (L.out _ a).mono ?_
        rintro e w1 ⟨rfl, hb⟩
        have A := a.below hb
        have ho := aD.ofBelow (S := (· = p)) hb
        have x5 := A.c5
        have f5 := A.free 5
        clear a hb L F E
        go_wp2_with fail
        have A1 := A.s5 t.tot
        have ho1 := ho.trans (aG w1 p 5 (.int .u64 t.tot))
        clear A ho x5 f5
        generalize w1.setCell ⟨p, 5, none⟩ (.int .u64 t.tot) = W1 at *
        refine (L2.out _ A1).mono ?_
        rintro e w2 ⟨rfl, hb⟩
        have A := A1.below hb
        have ho := ho1.trans (aD.ofBelow (S := (· = p)) hb)
        clear A1 hb L2 ho1
        have x2 := A.c2
        have f2 := A.free 2
        go_wp2_with fail
        go_ret
        exact ⟨rfl, A.s2 2, ho.trans (aG _ _ _ _)⟩
     . have hv : V = n := by rw [<- HV.out, aBu hen hf hge]
       have hr : R = { t with si := t.si + n } := by rw [<- HR.out, aAZ hen hf hge]
       have hm : min n (t.tot - t.si) = n := by omega
       have L2 := Hd (fun w a => qL { t with si := t.si + n } p w hen hf (by show 0 <= t.si + n; omega) (by show t.si + n <= t.tot; omega) t1 a)
       have hq : (t.tot - (t.si + n) == 0) = false := by simp; omega
       rw [hv, hr]
       clear hv hr HR HV hen hf
       go_enter func135, ntmps135
       go_wp2_with fail
       refine (F.out _ a).mono ?_
       rintro e w' ⟨rfl, rfl⟩
       go_wp2_with fail
       refine (E.out _ a).mono ?_
       rintro e w' ⟨rfl, rfl⟩
       go_wp2_with fail
       refine (L.out _ a).mono ?_
       rintro e w1 ⟨rfl, hb⟩
       have A := a.below hb
       have ho := aD.ofBelow (S := (· = p)) hb
       have x5 := A.c5
       have f5 := A.free 5
       clear a hb L F E
       go_wp2_with fail
       have A1 := A.s5 (t.si + n)
       have ho1 := ho.trans (aG w1 p 5 (.int .u64 (t.si + n)))
       clear A ho x5 f5
       generalize w1.setCell ⟨p, 5, none⟩ (.int .u64 (t.si + n)) = W1 at *
       refine (L2.out _ A1).mono ?_
       rintro e w2 ⟨rfl, hb⟩
       have A := A1.below hb
       have ho := ho1.trans (aD.ofBelow (S := (· = p)) hb)
       clear A1 hb L2 ho1
       have x2 := A.c2
       have f2 := A.free 2
       go_wp2_with fail
       go_ret
       exact ⟨rfl, A, ho⟩
 . have qf : (t.fa != 0) = true := by simp [hf]
   have e1 : t.tick n = t := by unfold Wd.tick; rw [if_neg (fun e => hf e.2)]
   have e2 : t.ran n = 0 := by unfold Wd.ran; rw [if_pos hf]
   rw [e1, e2]
   go_enter func135, ntmps135
   go_wp2_with fail
   refine (F.out _ a).mono ?_
   exact fB
theorem iD : (prog.info? 252).map (·.size) = some 7 := by kernel_rfl
theorem aBL (t : Wd) : ∀ x ∈ dl t, x.oneCell' = true := by
 intro x h
 simp only [dl, List.mem_cons, List.not_mem_nil, or_false] at h
 rcases h with rfl | rfl | rfl | rfl | rfl | rfl | rfl <;> rfl
theorem bR.row {old : Array Value} {w : World} {b : Nat} (h : w.heap[b]? = some (.cells old tD (0, 0))) (t : Wd) : bR (w.setRow b (dl t).toArray) b t := dJ _ h
section
variable {ops : Array Oper} {rest : List Oper} {o : Oper} {a : Act} {w : World} {Q : Exit -> Act -> World -> Prop}
theorem aB5 (hgd : o.guard = none) (x y : Operand) (ho : o.op = .store 252 x y) {b : Nat} (hx : a.eval x = .pointer (some ⟨b, 0, none⟩)) {t : Wd} (hy : a.eval y = .agg (dl t).toArray) {t' : Wd} (hg : bR w b t')
 (h : wpList prog ops Q rest (a.put o.dst undef) (w.setRow b (dl t).toArray)) : wpList prog ops Q (o :: rest) a w := by
 refine aW hgd _ x y ho b 0 hx (dl t) hy hg iD (by simp [dl]) (aBL _) ?_
 rw [cJ _ _ (by simp [dl])]
 exact h
end
theorem aBI (t : Wd) (p : Nat) (w : World) (a : bR w p t) :
 Calls prog 286 #[.pointer (some ⟨p, 0, none⟩)] w fun e w' => e = .returned (.tuple #[]) /\ bR w' p wz /\ aD (· = p) w w' := by
 go_enter func286, ntmps286
 go_wp2_with (refine aB5 rfl (.tmp 6) (.tmp 5) rfl rfl (t := wz) rfl a ?_)
 go_end0
 exact ⟨rfl, bR.row a wz, xJ _ _ _⟩
theorem aB2 : bT 0 = 0 := rfl
theorem aB3 : bT 4 = 0 := rfl
theorem aB4 : bT 8 = 0 := rfl
theorem aAS : bT 12 = 0 := rfl
theorem yE (t : Rs) (v : Int) (p : Nat) (w : World) (h : t.ok) (a : bO w p tS t) (v0 : 0 <= v) (v1 : v < 4294967296) :
 Calls prog 293 #[.pointer (some ⟨p, 0, none⟩), .int .u32 0, .int .u32 v] w fun e w' => e = .returned (.int .i64 0) /\ bO w' p tS (t.clr v) /\ aD (· = p) w w' := by
 have HC := Hd (fun w a => by have := fL t 0 p w h a (by omega) (by omega); rw [aB2] at this; exact this)
 go_enter func293, ntmps293
 go_wp2_with fail
 refine (HC.out _ a).mono ?_
 rintro e w1 ⟨rfl, h1⟩
 have A := a.below h1
 have x0 := A.c0
 have f0 := A.free 0
 have Z := A.s0 (bits BinOp.andNot IntKind.u32 t.ca v)
 have hO := (aD.ofBelow (S := (· = p)) h1).trans (aG w1 p 0 (.int .u32 (bits BinOp.andNot IntKind.u32 t.ca v)))
 have Z2 := Z.below (uH (aT _))
 have hO2 := hO.trans (jU _)
 clear a h1 HC
 go_wp2_with fail
 go_region
 all_goals
  go_wp2_with fail
  go_ret
  first | exact ⟨rfl, Z, hO⟩ | exact ⟨rfl, Z2, hO2⟩
theorem yF (t : Rs) (v : Int) (p : Nat) (w : World) (h : t.ok) (a : bO w p tS t) (v0 : 0 <= v) (v1 : v < 4294967296) :
 Calls prog 293 #[.pointer (some ⟨p, 0, none⟩), .int .u32 8, .int .u32 v] w fun e w' => e = .returned (.int .i64 0) /\ bO w' p tS (t.ask v) /\ aD (· = p) w w' := by
 have HC := Hd (fun w a => by have := fL t 8 p w h a (by omega) (by omega); rw [aB4] at this; exact this)
 obtain ⟨q, hq⟩ : ∃ q, t.qs = q := ⟨_, rfl⟩
 obtain ⟨z, hz⟩ : ∃ z, (v == 45063) = z := ⟨_, rfl⟩
 have HK := Hd (show (⟨t.ca, t.ct, t.la, q || z⟩ : Rs) = t.ask v by unfold Rs.ask; rw [hq, hz])
 cases q
 . cases z
   all_goals
    go_enter func293, ntmps293
    go_wp2_with fail
    refine (HC.out _ a).mono ?_
    rintro e w1 ⟨rfl, h1⟩
    have A := a.below h1
    have x0 := A.c4
    rw [hq] at x0
    have f0 := A.free 4
    clear hq a HC
    go_wp2_with fail
    go_ret
    refine ⟨rfl, by rw [<- HK.out]; exact A.s4 _, (aD.ofBelow (S := (· = p)) h1).trans (aG w1 p 4 _)⟩
 . go_enter func293, ntmps293
   go_wp2_with fail
   refine (HC.out _ a).mono ?_
   rintro e w1 ⟨rfl, h1⟩
   have A := a.below h1
   have x0 := A.c4
   rw [hq] at x0
   have f0 := A.free 4
   clear hq a HC
   go_wp2_with fail
   go_ret
   refine ⟨rfl, by rw [<- HK.out]; exact A.s4 _, (aD.ofBelow (S := (· = p)) h1).trans (aG w1 p 4 _)⟩
theorem gY {P : Prop} (h : P := by
 go_enter func293, ntmps293
 go_wp2_with fail
 refine (HC.out _ a).mono ?_
 rintro e w1 ⟨rfl, h1⟩
 go_wp2_with fail
 go_ret
 exact ⟨rfl, h1⟩
 ) : P := h
theorem pF (t : Rs) (o v : Int) (p : Nat) (w : World) (h : t.ok) (a : bO w p tS t) (ho : o = 4 \/ o = 12) :
 Calls prog 293 #[.pointer (some ⟨p, 0, none⟩), .int .u32 o, .int .u32 v] w fun e w' => e = .returned (.int .i64 12) /\ Below w.heap.size w w' := by
 rcases ho with rfl | rfl
 . have HC := Hd (fun w a => by have := fL t 4 p w h a (by omega) (by omega); rw [aB3] at this; exact this)
   exact gY
 . have HC := Hd (fun w a => by have := fL t 12 p w h a (by omega) (by omega); rw [aAS] at this; exact this)
   exact gY
theorem yG (t : Rs) (o v : Int) (p : Nat) (w : World) (h : t.ok) (a : bO w p tS t) (o0 : 0 <= o) (o1 : o < 4294967296) (he : bT o ≠ 0) :
 Calls prog 293 #[.pointer (some ⟨p, 0, none⟩), .int .u32 o, .int .u32 v] w fun e w' => e = .returned (.int .i64 (bT o)) /\ Below w.heap.size w w' := by
 have HC := Hd (fun w a => fL t o p w h a o0 o1)
 obtain ⟨E, hE⟩ : ∃ E, bT o = E := ⟨_, rfl⟩
 rw [hE] at HC he ⊢
 have q1 : (E != 0) = true := by simpa using he
 clear hE he
 exact gY
theorem aAP (t : Rs) (o v : Int) (p : Nat) (w : World) (h : t.ok) (a : bO w p tS t) (o0 : 0 <= o) (o1 : o < 4294967296) (v0 : 0 <= v) (v1 : v < 4294967296) :
 Calls prog 293 #[.pointer (some ⟨p, 0, none⟩), .int .u32 o, .int .u32 v] w fun e w' => e = .returned (.int .i64 (pO o)) /\ bO w' p tS (t.sto o v) /\ aD (· = p) w w' := by
 by_cases he : bT o = 0
 . rcases jX o0 he with rfl | rfl | rfl | rfl
   . exact yE t v p w h a v0 v1
   . refine (pF t 4 v p w h a (by omega)).mono ?_
     exact fD
   . exact yF t v p w h a v0 v1
   . refine (pF t 12 v p w h a (by omega)).mono ?_
     exact fD
 . have e1 : pO o = bT o := by unfold pO; rw [if_pos he]
   have e2 : t.sto o v = t := by
    unfold Rs.sto
    rw [if_neg (fun e => he (by rw [e]; rfl)), if_neg (fun e => he (by rw [e]; rfl))]
   rw [e1, e2]
   refine (yG t o v p w h a o0 o1 he).mono ?_
   exact fD
end Go.Proofs.YtaohacadochldaaGreat.B
