/- Several texts in one: Package clint: Store, Copy. Package clint: Copy. What New and Copy of a bank return. Layer 8: Tick, Reset, Copy of a Wdog. Layer 9: Store, Word. -/
import Derived.Test.YtpojmmgokgamgaaGreatZVaf
import Derived.Test.YtpojmmgokgamgaaGreatZVag
import Derived.Test.YtpojmmgokgamgaaGreatZVai
import Derived.Test.YtpojmmgokgamgaaGreatZVam
import Derived.Shelf.SlMaps.Clone
set_option linter.unusedVariables false
set_option linter.unusedSimpArgs false
set_option maxRecDepth 100000
namespace Go.Proofs.YtpojmmgokgamgaaGreat.B
open Go.ChangeShapes Go.WideShapes Go.RowKit Go.Sort Go.MapKept
theorem field_bit0 (v : Int) (v0 : 0 <= v) : field v 0 1 = v % 2 := by
 unfold field inw
 simp
 omega
def RegAt (W : World) (x : Nat) (k h : Int) : Prop := W.heap[x]? = some (.cells #[.int .i64 k, .int .i64 h] 250 (0, 0))
theorem RegAt.c0 {W : World} {x : Nat} {k h : Int} (a : RegAt W x k h) : W.cell? ⟨x, 0, none⟩ = some (.int .i64 k) := by have := blk_cell a 0; simpa using this
theorem RegAt.c1 {W : World} {x : Nat} {k h : Int} (a : RegAt W x k h) : W.cell? ⟨x, 1, none⟩ = some (.int .i64 h) := by have := blk_cell a 1; simpa using this
theorem RegAt.lt {W : World} {x : Nat} {k h : Int} (a : RegAt W x k h) : x < W.heap.size := lt_of_block a
theorem cStoreSoft (v t : Int) (h n : Nat) (D S : Nat -> Int) (p m : Nat) (w : World) (hc : CAt w p m t n D S) (hn : h < n) (v0 : 0 <= v) (v1 : v < 4294967296) :
 Calls Tryz.prog 256 #[.pointer (some ⟨p, 0, none⟩), .int .u32 (4 * (h : Int)), .int .u32 v] w
  fun e w' => e = .returned (.int .i64 0) /\ CAt w' p m t n D (upd S h (v % 2)) /\ Off (· = p) w w' := by
 have n8 := hc.n1
 have hh : h < 8 := by omega
 go_enter Tryz.func256, Tryz.ntmps256
 go_wp2_with fail
 refine (cFind (4 * (h : Int)) t 0 h n D S p m _ hc (by omega) (ne4 (by omega)) (lay_soft hn)).mono ?_
 rintro e w1 ⟨rfl, hb⟩
 have H := Hd (hc.below (trA hb (.cells #[.int .i64 0, .int .i64 h] 250)))
 have X := blk_new w1 (.cells #[.int .i64 0, .int .i64 h] 250)
 have HB := Hd (trA hb (.cells #[.int .i64 0, .int .i64 h] 250))
 clear hc hb
 go_upto_region 2 with (fail)
 generalize (w1.alloc (.cells #[.int .i64 0, .int .i64 h] 250)) = W at *
 generalize w1.heap.size = x at *
 have R : RegAt W x 0 h := X
 have x0 := R.c0
 have x1 := R.c1
 have hx := R.lt
 clear X R
 have hp := H.out.ltp
 have cS := H.out.cS h hh
 have fS := H.out.free (10 + h)
 have hg := gcell
 have hf := gfrozen
 go_wp2_with fail
 refine wp_region_tail_below 8 (by kernel_rfl) (by kernel_rfl) ?_
 simp only [List.take_succ_cons, List.take_zero, List.drop_succ_cons, List.drop_zero]
 repeat (go_big_quiet_step (first | (go_at_call 238; exact Calls.regrown_of ((Field v 0 1 _ v0 v1 (by omega) (by omega)).mono fun _ _ g => ⟨g.1, by obtain ⟨_, j, rfl⟩ := g; exact trN (tr0 _) _⟩))))
 refine wpQuiet_nil ?_
 intro _ hw'
 obtain ⟨⟨dq, osq⟩, hw''⟩ := hw'
 subst hw''
 have hb2 := below_regrown W dq osq
 have E := Hd (field_bit0 v v0)
 have H2 := Hd ((H.out.below hb2).setS h (v := v % 2) hh (by omega) (by omega))
 have O2 := Hd (((Off.ofBelow (S := (· = p)) (tr HB.out hb2))).trans (off_set _ p (10 + h) (.int .u32 (v % 2))))
 go_wp2_with fail
 go_ret
 rw [E.out]
 exact ⟨rfl, H2.out, O2.out⟩
theorem cStoreLow (v t : Int) (h n : Nat) (D S : Nat -> Int) (p m : Nat) (w : World) (hc : CAt w p m t n D S) (hn : h < n) (v0 : 0 <= v) (v1 : v < 4294967296) :
 Calls Tryz.prog 256 #[.pointer (some ⟨p, 0, none⟩), .int .u32 (16384 + 8 * (h : Int)), .int .u32 v] w
  fun e w' => e = .returned (.int .i64 0) /\ CAt w' p m t n (upd D h (join (hi (D h)) v)) S /\ Off (· = p) w w' := by
 have n8 := hc.n1
 have hh : h < 8 := by omega
 go_enter Tryz.func256, Tryz.ntmps256
 go_wp2_with fail
 refine (cFind (16384 + 8 * (h : Int)) t 1 h n D S p m _ hc (by omega) (ne4 (by omega)) (lay_low hn)).mono ?_
 rintro e w1 ⟨rfl, hb⟩
 have H := Hd (hc.below (trA hb (.cells #[.int .i64 1, .int .i64 h] 250)))
 have X := blk_new w1 (.cells #[.int .i64 1, .int .i64 h] 250)
 have HB := Hd (trA hb (.cells #[.int .i64 1, .int .i64 h] 250))
 clear hc hb
 go_upto_region 2 with (fail)
 generalize (w1.alloc (.cells #[.int .i64 1, .int .i64 h] 250)) = W at *
 generalize w1.heap.size = x at *
 have R : RegAt W x 1 h := X
 have x0 := R.c0
 have x1 := R.c1
 have hx := R.lt
 clear X R
 have hp := H.out.ltp
 have cD := H.out.cD h hh
 obtain ⟨d0, d1⟩ := H.out.d h
 have fS := H.out.free (2 + h)
 have hg := gcell
 have hf := gfrozen
 go_wp2_with fail
 refine wp_region_tail_below 16 (by kernel_rfl) (by kernel_rfl) ?_
 simp only [List.take_succ_cons, List.take_zero, List.drop_succ_cons, List.drop_zero]
 repeat (go_big_quiet_step (first | (go_at_call 219; exact Calls.regrown_of ((Hi _ _ d0 d1).mono fun _ _ g => ⟨g.1, g.2 ▸ tr0 _⟩)) | (go_at_call 260; exact Calls.regrown_of ((Join _ _ _ (hi_nonneg d0) (hi_lt d1) v0 v1).mono fun _ _ g => ⟨g.1, g.2 ▸ tr0 _⟩))))
 refine wpQuiet_nil ?_
 intro _ hw'
 obtain ⟨⟨dq, osq⟩, hw''⟩ := hw'
 subst hw''
 have hb2 := below_regrown W dq osq
 have vb := join_bounds (hi_nonneg d0) (hi_lt d1) v0 v1
 have H2 := Hd ((H.out.below hb2).setD h (v := join (hi (D h)) v) hh vb.1 vb.2)
 have O2 := Hd (((Off.ofBelow (S := (· = p)) (tr HB.out hb2))).trans (off_set _ p (2 + h) (.int .u64 (join (hi (D h)) v))))
 clear vb
 go_wp2_with fail
 go_ret
 exact ⟨rfl, H2.out, O2.out⟩
theorem cStoreHigh (v t : Int) (h n : Nat) (D S : Nat -> Int) (p m : Nat) (w : World) (hc : CAt w p m t n D S) (hn : h < n) (v0 : 0 <= v) (v1 : v < 4294967296) :
 Calls Tryz.prog 256 #[.pointer (some ⟨p, 0, none⟩), .int .u32 (16384 + 8 * (h : Int) + 4), .int .u32 v] w
  fun e w' => e = .returned (.int .i64 0) /\ CAt w' p m t n (upd D h (join v (lo (D h)))) S /\ Off (· = p) w w' := by
 have n8 := hc.n1
 have hh : h < 8 := by omega
 go_enter Tryz.func256, Tryz.ntmps256
 go_wp2_with fail
 refine (cFind (16384 + 8 * (h : Int) + 4) t 2 h n D S p m _ hc (by omega) (ne4 (by omega)) (lay_high hn)).mono ?_
 rintro e w1 ⟨rfl, hb⟩
 have H := Hd (hc.below (trA hb (.cells #[.int .i64 2, .int .i64 h] 250)))
 have X := blk_new w1 (.cells #[.int .i64 2, .int .i64 h] 250)
 have HB := Hd (trA hb (.cells #[.int .i64 2, .int .i64 h] 250))
 clear hc hb
 go_upto_region 2 with (fail)
 generalize (w1.alloc (.cells #[.int .i64 2, .int .i64 h] 250)) = W at *
 generalize w1.heap.size = x at *
 have R : RegAt W x 2 h := X
 have x0 := R.c0
 have x1 := R.c1
 have hx := R.lt
 clear X R
 have hp := H.out.ltp
 have cD := H.out.cD h hh
 obtain ⟨d0, d1⟩ := H.out.d h
 have fS := H.out.free (2 + h)
 have hg := gcell
 have hf := gfrozen
 go_wp2_with fail
 refine wp_region_tail_below 16 (by kernel_rfl) (by kernel_rfl) ?_
 simp only [List.take_succ_cons, List.take_zero, List.drop_succ_cons, List.drop_zero]
 repeat (go_big_quiet_step (first | (go_at_call 180; exact Calls.regrown_of ((Lo _ _ d0 d1).mono fun _ _ g => ⟨g.1, g.2 ▸ tr0 _⟩)) | (go_at_call 260; exact Calls.regrown_of ((Join _ _ _ v0 v1 (lo_nonneg _) (lo_lt _)).mono fun _ _ g => ⟨g.1, g.2 ▸ tr0 _⟩))))
 refine wpQuiet_nil ?_
 intro _ hw'
 obtain ⟨⟨dq, osq⟩, hw''⟩ := hw'
 subst hw''
 have hb2 := below_regrown W dq osq
 have vb := join_bounds v0 v1 (lo_nonneg (D h)) (lo_lt (D h))
 have H2 := Hd ((H.out.below hb2).setD h (v := join v (lo (D h))) hh vb.1 vb.2)
 have O2 := Hd (((Off.ofBelow (S := (· = p)) (tr HB.out hb2))).trans (off_set _ p (2 + h) (.int .u64 (join v (lo (D h))))))
 clear vb
 go_wp2_with fail
 go_ret
 exact ⟨rfl, H2.out, O2.out⟩
theorem cStoreErr (o v t : Int) (n : Nat) (D S : Nat -> Int) (p m : Nat) (w : World) (hc : CAt w p m t n D S) (E : Int) (hE : (E != 0) = true) (hE2 : (E == 0) = false)
 (hf : Calls Tryz.prog 258 #[.pointer (some ⟨p, 0, none⟩), .int .u32 o] w fun e w' => e = .returned (.tuple #[.agg #[.int .i64 0, .int .i64 0], .int .i64 E]) /\ Below w.heap.size w w') :
 Calls Tryz.prog 256 #[.pointer (some ⟨p, 0, none⟩), .int .u32 o, .int .u32 v] w
  fun e w' => e = .returned (.int .i64 E) /\ CAt w' p m t n D S /\ Off (· = p) w w' := by
 have HF := Hd hf
 clear hf
 go_enter Tryz.func256, Tryz.ntmps256
 go_wp2_with fail
 refine HF.out.mono ?_
 rintro e w1 ⟨rfl, hb⟩
 have H := Hd (hc.below (trA hb (.cells #[.int .i64 0, .int .i64 0] 250)))
 have O := Hd (Off.ofBelow (S := (· = p)) (trA hb (.cells #[.int .i64 0, .int .i64 0] 250)))
 clear hc hb
 go_wp2_with fail
 go_ret
 exact ⟨rfl, H.out, O.out⟩
theorem cStoreTime (o v t : Int) (k n : Nat) (D S : Nat -> Int) (p m : Nat) (w : World) (hc : CAt w p m t n D S) (hk : k = 3 \/ k = 4) (o0 : 0 <= o) (o4 : (o % 4 != 0) = false) (hin : (o, regV k (0 : Nat)) ∈ lay n) :
 Calls Tryz.prog 256 #[.pointer (some ⟨p, 0, none⟩), .int .u32 o, .int .u32 v] w
  fun e w' => e = .returned (.int .i64 12) /\ CAt w' p m t n D S /\ Off (· = p) w w' := by
 rcases hk with rfl | rfl
 all_goals
  go_enter Tryz.func256, Tryz.ntmps256
  go_wp2_with fail
  refine (cFind o t _ _ n D S p m _ hc o0 o4 hin).mono ?_
  rintro e w1 ⟨rfl, hb⟩
  go_wp2_with fail
  go_ret
  exact ⟨rfl, hc.below (trA hb _), Off.ofBelow (trA hb _)⟩
theorem cStore (o v t : Int) (n : Nat) (D S : Nat -> Int) (p m : Nat) (w : World) (hc : CAt w p m t n D S) (o0 : 0 <= o) (o1 : o < 4294967296) (v0 : 0 <= v) (v1 : v < 4294967296) :
 Calls Tryz.prog 256 #[.pointer (some ⟨p, 0, none⟩), .int .u32 o, .int .u32 v] w
  fun e w' => e = .returned (.int .i64 (cErrS n o)) /\ CAt w' p m t n (cPutD n D o v) (cPutS n S o v) /\ Off (· = p) w w' := by
 have n8 := hc.n1
 rcases at_all n o with h | h | h | ⟨h, hn, e⟩ | ⟨h, hn, e⟩ | ⟨h, hn, e⟩ | ⟨h4, h1, h2, h⟩
 . have he : cErrS n o = 11 := by rw [err_errS (by rw [odd_err h]; omega), odd_err h]
   rw [he, err_putD (by rw [he]; omega), err_putS (by rw [he]; omega)]
   exact cStoreErr o v t n D S p m w hc 11 rfl rfl (cFindBad o p w o0 (by simpa using h))
 . subst h; rw [lo_errS, err_putD (by rw [lo_errS]; omega), err_putS (by rw [lo_errS]; omega)]; exact cStoreTime _ v t 3 n D S p m w hc (.inl rfl) o0 (by decide) (lay_lo n)
 . subst h; rw [hi_errS, err_putD (by rw [hi_errS]; omega), err_putS (by rw [hi_errS]; omega)]; exact cStoreTime _ v t 4 n D S p m w hc (.inr rfl) o0 (by decide) (lay_hi n)
 . subst e; rw [soft_errS hn n8, soft_putD hn n8, soft_putS hn n8]; exact cStoreSoft v t h n D S p m w hc hn v0 v1
 . subst e; rw [low_errS hn n8, low_putD hn n8, low_putS hn]; exact cStoreLow v t h n D S p m w hc hn v0 v1
 . subst e; rw [high_errS hn n8, high_putD hn n8, high_putS hn]; exact cStoreHigh v t h n D S p m w hc hn v0 v1
 . have hr := none_err (n := n) o0 h4 h1 h2 h
   have he : cErrS n o = 10 := by rw [err_errS (by rw [hr]; omega), hr]
   rw [he, err_putD (by rw [he]; omega), err_putS (by rw [he]; omega)]
   exact cStoreErr o v t n D S p m w hc 10 rfl rfl (cFindNone o t n D S p m w hc o0 o1 (by simpa using h4) (lay_none n o h1 h2 h))
end Go.Proofs.YtpojmmgokgamgaaGreat.B
namespace Go.Proofs.YtpojmmgokgamgaaGreat.B
open Go.ChangeShapes Go.WideShapes Go.RowKit Go.Sort
def rmO : Obj := .cells (rm 0 (fun _ => 0)).toArray tRm (0, 0)
theorem rmO_eq : Obj.cells #[.pointer none, .pointer none, .pointer none, .pointer none, .pointer none, .pointer none, .pointer none, .pointer none] tRm (0, 0) = rmO := rfl
theorem RmAt.push {w w' : World} {g k r : Nat} {q : Nat -> Nat} {t : Nat -> Tm} (h : RmAt w g k q t) (hb : Below w.heap.size w w') (hk : k < 8) (a : TAt w' r tC (t k)) (o : (t k).ok) (hr : w.heap.size <= r) :
 RmAt (w'.setCell ⟨g, k, none⟩ (.pointer (some ⟨r, 0, none⟩))) g (k + 1) (fun i => if i = k then r else q i) t := by
 have h' := h.below hb
 have hrg : r ≠ g := by have := h.lt; omega
 refine ⟨?_, ?_, ?_, ?_, by omega⟩
 . rw [blk_set h'.room, set_arr, show Value.pointer (some ⟨r, 0, none⟩) = ptr r from rfl, rm_set k q r hk]
 . intro i hi
   by_cases e : i = k
   . subst e; rw [if_pos rfl]; exact a.other _ _ _ hrg
   . rw [if_neg e]; exact (h'.tms i (by omega)).other _ _ _ (h'.gne (by omega))
 . intro i hi
   by_cases e : i = k
   . subst e; exact o
   . exact h.ok i (by omega)
 . intro i j hi hj e
   by_cases ei : i = k <;> by_cases ej : j = k
   . rw [ei, ej]
   . rw [if_pos ei, if_neg ej] at e; have := h.ltq (show j < k by omega); omega
   . rw [if_neg ei, if_pos ej] at e; have := h.ltq (show i < k by omega); omega
   . rw [if_neg ei, if_neg ej] at e; exact h.one i j (by omega) (by omega) e
theorem rm_start (w : World) (t : Nat -> Tm) : RmAt (w.alloc rmO) w.heap.size 0 (fun _ => 0) t :=
 ⟨blk_new w rmO, fun i hi => by omega, fun i hi => by omega, fun i j hi => by omega, by omega⟩
theorem bNew1 (i : Int) (w : World) : Calls Tryz.prog 92 #[.int .i64 i] w fun e w' => e = .returned (.pointer (some ⟨w.heap.size, 0, none⟩)) /\ w' = w.alloc (.cells (wl tz).toArray tC (0, 0)) := by
 go_enter Tryz.func92, Tryz.ntmps92
 go_wp2_with fail
 refine (nNew w).mono ?_
 rintro e w1 ⟨rfl, rfl⟩
 go_wp2_with fail
 go_ret
 exact ⟨rfl, rfl⟩
theorem bRowNew {n : Nat} (n8 : n <= 8) (w : World) :
 Calls Tryz.prog 91 #[.int .i64 n, .func (.func 92) #[] #[]] w fun e w' => ∃ q' : Nat -> Nat, e = .returned (.slice (some ⟨w.heap.size, 0, none⟩) n n) /\ RmAt w' w.heap.size n q' (fun _ => tz) /\ Below w.heap.size w w' /\ ∀ i, i < n -> w.heap.size <= q' i := by
 have R0 := rm_start w (fun _ => tz)
 have B0 := trA (tr0 w) rmO
 go_enter Tryz.func91, Tryz.ntmps91
 go_upto_region 2 with (fail)
 rw [rmO_eq]
 generalize w.alloc rmO = W at *
 go_wp2_with fail
 go_loopw [8] (fun i wr => ∃ (k : Nat) (q' : Nat -> Nat), k <= n /\ i = .int .i64 k /\ RmAt wr w.heap.size k q' (fun _ => tz) /\ Below w.heap.size w wr /\ ∀ i, i < k -> w.heap.size <= q' i) (fun i wr => n - (intOf i).toNat)
 case atStart => exact ⟨0, _, by omega, rfl, R0, B0, fun i hi => by omega⟩
 case round =>
  clear R0 B0
  obtain ⟨k, q', hk, rfl, R, hB, hq⟩ := hrel
  by_cases hlt : k < n
  . skip
    go_wp2_with fail
    refine (bNew1 k wr).mono ?_
    rintro e w1 ⟨rfl, rfl⟩
    have hb1 := trA (tr0 wr) (.cells (wl tz).toArray tC (0, 0))
    have a1 : TAt (wr.alloc (.cells (wl tz).toArray tC (0, 0))) wr.heap.size tC tz := blk_new wr _
    have R2 := R.push hb1 (by omega) a1 tz_ok (Nat.le_refl _)
    have hB2 := (tr hB hb1).setCell (p := ⟨w.heap.size, k, none⟩) (Nat.le_refl _) (.pointer (some ⟨wr.heap.size, 0, none⟩))
    have hf : (wr.alloc (.cells (wl tz).toArray tC (0, 0))).frozen? ⟨w.heap.size, k, none⟩ = false := blk_free (R.below hb1).room k
    have hc : ∃ v, (wr.alloc (.cells (wl tz).toArray tC (0, 0))).cell? ⟨w.heap.size, k, none⟩ = some v := by
     rw [blk_cell (R.below hb1).room k]
     have : k < (rm k q').length := by rw [rm_len]; omega
     rw [List.getElem?_toArray]
     exact ⟨_, List.getElem?_eq_getElem this⟩
    obtain ⟨v, hc⟩ := hc
    have hsz : w.heap.size <= wr.heap.size := hB.size
    have hq2 : ∀ i, i < k + 1 -> w.heap.size <= (fun i => if i = k then wr.heap.size else q' i) i := by
     intro i hi
     by_cases e : i = k
     . subst e; show w.heap.size <= (if i = i then wr.heap.size else q' i); rw [if_pos rfl]; exact hsz
     . show w.heap.size <= (if i = k then wr.heap.size else q' i); rw [if_neg e]; exact hq i (by omega)
    have HR := Hd R2
    have HB := Hd hB2
    have HQ := Hd hq2
    clear R hB R2 hB2 hq hq2 a1 hb1 
    generalize wr.alloc (.cells (wl tz).toArray tC (0, 0)) = W1 at *
    generalize wr.heap.size = r at *
    go_wp2_with fail
    go_roundw
    case rel => exact ⟨k + 1, _, by omega, by go_num, HR.out, HB.out, HQ.out⟩
    case measure => simp [intOf]; omega
  . obtain rfl : k = n := by omega
    have HR := Hd R
    clear R
    have hal : Tryz.prog.arrayLen 251 = 8 := by kernel_rfl
    have hk8 : (k : Int) <= 8 := by omega
    go_wp2_with fail
    go_ret
    exact ⟨q', rfl, HR.out, hB, hq⟩
theorem bNew (n : Nat) (n0 : 1 <= n) (n8 : n <= 8) (w : World) :
 Calls Tryz.prog 47 #[.int .i64 n] w fun e w' => ∃ (p g : Nat) (q : Nat -> Nat), e = .returned (.tuple #[.pointer (some ⟨p, 0, none⟩), .int .i64 0]) /\ BkAt w' p g n q (fun _ => tz) /\ Below w.heap.size w w' /\ w.heap.size <= p /\ w.heap.size <= g /\ ∀ i, i < n -> w.heap.size <= q i := by
 go_enter Tryz.func47, Tryz.ntmps47
 go_wp2_with fail
 refine (bRowNew n8 w).mono ?_
 rintro e w1 ⟨q, rfl, R, hB, hq⟩
 have B1 := trA hB (.cells #[.slice (some ⟨w.heap.size, 0, none⟩) n n] tBk (0, 0))
 have K : BkAt (w1.alloc (.cells #[.slice (some ⟨w.heap.size, 0, none⟩) n n] tBk (0, 0))) w1.heap.size w.heap.size n q (fun _ => tz) := ⟨blk_new w1 _, R.below (trA (tr0 w1) _)⟩
 have hs := hB.size
 go_wp2_with fail
 go_ret2
 exact ⟨_, _, q, rfl, K, B1, hs, Nat.le_refl _, hq⟩
theorem bNewNo (n : Int) (h : n < 1 \/ 8 < n) (w : World) :
 Calls Tryz.prog 47 #[.int .i64 n] w fun e w' => e = .returned (.tuple #[.pointer none, .int .i64 5]) /\ w = w' := by
 by_cases h0 : n < 1
 . go_enter Tryz.func47, Tryz.ntmps47
   go_wp2_with fail
   go_ret2
   exact ⟨rfl, rfl⟩
 . have h8 : 8 < n := by omega
   clear h
   go_enter Tryz.func47, Tryz.ntmps47
   go_wp2_with fail
   go_ret2
   exact ⟨rfl, rfl⟩
theorem tick_end {t : Wd} {n : Int} (hen : t.en = true) (hf : t.fa = 0) (h : t.tot <= t.si + n) : t.tick n = { t with si := t.tot, fa := 2 } := by unfold Wd.tick; rw [if_pos ⟨hen, hf⟩, if_pos h]
theorem tick_on {t : Wd} {n : Int} (hen : t.en = true) (hf : t.fa = 0) (h : ¬ t.tot <= t.si + n) : t.tick n = { t with si := t.si + n } := by unfold Wd.tick; rw [if_pos ⟨hen, hf⟩, if_neg h]
theorem ran_end {t : Wd} {n : Int} (hen : t.en = true) (hf : t.fa = 0) (h : t.tot <= t.si + n) : t.ran n = t.tot - t.si := by unfold Wd.ran; rw [if_neg (by simp [hf]), if_pos hen, if_pos h]
theorem ran_on {t : Wd} {n : Int} (hen : t.en = true) (hf : t.fa = 0) (h : ¬ t.tot <= t.si + n) : t.ran n = n := by unfold Wd.ran; rw [if_neg (by simp [hf]), if_pos hen, if_neg h]
theorem dLeft0 (t : Wd) (p : Nat) (w : World) (hen : t.en = true) (hf : t.fa = 0) (s0 : 0 <= t.si) (s1 : t.si <= t.tot) (t1 : t.tot < 4294967296) (a : DAt w p t) :
 Calls Tryz.prog 152 #[.pointer (some ⟨p, 0, none⟩)] w fun e w' => e = .returned (.int .u64 (t.tot - t.si)) /\ Below w.heap.size w w' := by
 have x0 := a.c0
 have x1 := a.c1
 have x2 := a.c2
 have hr := dRuns t w
 rw [decide_eq_true (show t.en = true /\ t.fa = 0 from ⟨hen, hf⟩)] at hr
 have hr := Hd hr
 clear hen hf
 go_enter Tryz.func152, Tryz.ntmps152
 go_wp2_with fail
 refine (hr.out).mono ?_
 rintro e w1 ⟨rfl, hb⟩
 have a1 := a.below hb
 clear hr x0 x1 x2 a
 have x4 := a1.c4
 have x5 := a1.c5
 go_wp2_with fail
 have hg := gcell
 have hl := a1.lt
 refine wp_region_quiet_below (by kernel_rfl) (by kernel_rfl) ?_
 repeat (go_big_quiet_step (fail))
 refine wpQuiet_nil ?_
 intro _ hw'
 obtain ⟨⟨dq, osq⟩, hw''⟩ := hw'
 subst hw''
 go_wp2_with fail
 go_ret
 exact ⟨rfl, trG hb _ _⟩
set_option maxHeartbeats 1600000 in
theorem dTick (t : Wd) (n : Int) (p : Nat) (w : World) (h : t.ok) (a : DAt w p t) (n0 : 0 <= n) (n1 : n < 18446744073709551616) :
 Calls Tryz.prog 111 #[.pointer (some ⟨p, 0, none⟩), .int .u64 n] w fun e w' => e = .returned (.int .u64 (t.ran n)) /\ DAt w' p (t.tick n) /\ Off (· = p) w w' := by
 have F := Hd (fun w a => dFault t p w a)
 have E := Hd (fun w a => dEnabled t p w a)
 by_cases hf : t.fa = 0
 . have qf : (t.fa != 0) = false := by simp [hf]
   obtain ⟨en, hen⟩ : ∃ b, t.en = b := ⟨_, rfl⟩
   rw [hen] at E
   cases en
   . have e1 : t.tick n = t := by unfold Wd.tick; rw [if_neg (by rw [hen]; simp)]
     have e2 : t.ran n = n := by unfold Wd.ran; rw [if_neg (by simp [hf]), if_neg (by rw [hen]; simp)]
     rw [e1, e2]
     go_enter Tryz.func111, Tryz.ntmps111
     go_wp2_with fail
     refine (F.out _ a).mono ?_
     rintro e w' ⟨rfl, rfl⟩
     go_wp2_with fail
     refine (E.out _ a).mono ?_
     rintro e w' ⟨rfl, rfl⟩
     go_wp2_with fail
     go_ret
     exact ⟨rfl, a, Off.refl _ _⟩
   . have hlt := h.run hen hf
     have s0 := h.s0
     have t1 := h.t1
     obtain ⟨R, hR⟩ : ∃ R, t.tick n = R := ⟨_, rfl⟩
     obtain ⟨V, hV⟩ : ∃ V, t.ran n = V := ⟨_, rfl⟩
     rw [hR, hV]
     have HR := Hd hR
     have HV := Hd hV
     have L := Hd (fun w a => dLeft0 t p w hen hf s0 (by omega) t1 a)
     clear hR hV h
     by_cases hge : t.tot <= t.si + n
     . have hv : V = t.tot - t.si := by rw [<- HV.out, ran_end hen hf hge]
       have hr : R = { t with si := t.tot, fa := 2 } := by rw [<- HR.out, tick_end hen hf hge]
       have hm : min n (t.tot - t.si) = t.tot - t.si := by omega
       have hs : t.si + (t.tot - t.si) = t.tot := by omega
       have L2 := Hd (fun w a => by have := dLeft0 { t with si := t.tot } p w hen hf (by show 0 <= t.tot; omega) (Int.le_refl _) t1 a; rw [show t.tot - t.tot = 0 by omega] at this; exact this)
       rw [hv, hr]
       clear hv hr HR HV hen hf
       have hn : n = t.tot - t.si \/ ¬ n <= t.tot - t.si := by omega
       rcases hn with rfl | hn
       all_goals
        go_enter Tryz.func111, Tryz.ntmps111
        go_wp2_with fail
        refine (F.out _ a).mono ?_
        rintro e w' ⟨rfl, rfl⟩
        go_wp2_with fail
        refine (E.out _ a).mono ?_
        rintro e w' ⟨rfl, rfl⟩
        go_wp2_with fail
        refine (L.out _ a).mono ?_
        rintro e w1 ⟨rfl, hb⟩
        have A := a.below hb
        have ho := Off.ofBelow (S := (· = p)) hb
        have x5 := A.c5
        have f5 := A.free 5
        clear a hb L F E
        go_wp2_with fail
        have A1 := A.s5 t.tot
        have ho1 := ho.trans (off_set w1 p 5 (.int .u64 t.tot))
        clear A ho x5 f5
        generalize w1.setCell ⟨p, 5, none⟩ (.int .u64 t.tot) = W1 at *
        refine (L2.out _ A1).mono ?_
        rintro e w2 ⟨rfl, hb⟩
        have A := A1.below hb
        have ho := ho1.trans (Off.ofBelow (S := (· = p)) hb)
        clear A1 hb L2 ho1
        have x2 := A.c2
        have f2 := A.free 2
        go_wp2_with fail
        go_ret
        exact ⟨rfl, A.s2 2, ho.trans (off_set _ _ _ _)⟩
     . have hv : V = n := by rw [<- HV.out, ran_on hen hf hge]
       have hr : R = { t with si := t.si + n } := by rw [<- HR.out, tick_on hen hf hge]
       have hm : min n (t.tot - t.si) = n := by omega
       have L2 := Hd (fun w a => dLeft0 { t with si := t.si + n } p w hen hf (by show 0 <= t.si + n; omega) (by show t.si + n <= t.tot; omega) t1 a)
       have hq : (t.tot - (t.si + n) == 0) = false := by simp; omega
       rw [hv, hr]
       clear hv hr HR HV hen hf
       go_enter Tryz.func111, Tryz.ntmps111
       go_wp2_with fail
       refine (F.out _ a).mono ?_
       rintro e w' ⟨rfl, rfl⟩
       go_wp2_with fail
       refine (E.out _ a).mono ?_
       rintro e w' ⟨rfl, rfl⟩
       go_wp2_with fail
       refine (L.out _ a).mono ?_
       rintro e w1 ⟨rfl, hb⟩
       have A := a.below hb
       have ho := Off.ofBelow (S := (· = p)) hb
       have x5 := A.c5
       have f5 := A.free 5
       clear a hb L F E
       go_wp2_with fail
       have A1 := A.s5 (t.si + n)
       have ho1 := ho.trans (off_set w1 p 5 (.int .u64 (t.si + n)))
       clear A ho x5 f5
       generalize w1.setCell ⟨p, 5, none⟩ (.int .u64 (t.si + n)) = W1 at *
       refine (L2.out _ A1).mono ?_
       rintro e w2 ⟨rfl, hb⟩
       have A := A1.below hb
       have ho := ho1.trans (Off.ofBelow (S := (· = p)) hb)
       clear A1 hb L2 ho1
       have x2 := A.c2
       have f2 := A.free 2
       go_wp2_with fail
       go_ret
       exact ⟨rfl, A, ho⟩
 . have qf : (t.fa != 0) = true := by simp [hf]
   have e1 : t.tick n = t := by unfold Wd.tick; rw [if_neg (fun e => hf e.2)]
   have e2 : t.ran n = 0 := by unfold Wd.ran; rw [if_pos hf]
   rw [e1, e2]
   go_enter Tryz.func111, Tryz.ntmps111
   go_wp2_with fail
   refine (F.out _ a).mono ?_
   rintro e w' ⟨rfl, rfl⟩
   go_wp2_with fail
   go_ret
   exact ⟨rfl, a, Off.refl _ _⟩
theorem iD : (Tryz.prog.info? 180).map (·.size) = some 7 := by kernel_rfl
theorem dl_one (t : Wd) : ∀ x ∈ dl t, x.oneCell' = true := by
 intro x h
 simp only [dl, List.mem_cons, List.not_mem_nil, or_false] at h
 rcases h with rfl | rfl | rfl | rfl | rfl | rfl | rfl <;> rfl
theorem DAt.row {old : Array Value} {w : World} {b : Nat} (h : w.heap[b]? = some (.cells old tD (0, 0))) (t : Wd) : DAt (w.setRow b (dl t).toArray) b t := row_set _ h
section
variable {ops : Array Oper} {rest : List Oper} {o : Oper} {a : Act} {w : World} {Q : Exit -> Act -> World -> Prop}
theorem storeD (hgd : o.guard = none) (x y : Operand) (ho : o.op = .store 180 x y) {b : Nat} (hx : a.eval x = .pointer (some ⟨b, 0, none⟩)) {t : Wd} (hy : a.eval y = .agg (dl t).toArray) {t' : Wd} (hg : DAt w b t')
 (h : wpList Tryz.prog ops Q rest (a.put o.dst undef) (w.setRow b (dl t).toArray)) : wpList Tryz.prog ops Q (o :: rest) a w := by
 refine wpList_store_part hgd _ x y ho b 0 hx (dl t) hy hg iD (by simp [dl]) (dl_one _) ?_
 rw [spliced_all _ _ (by simp [dl])]
 exact h
end
theorem dReset (t : Wd) (p : Nat) (w : World) (a : DAt w p t) :
 Calls Tryz.prog 273 #[.pointer (some ⟨p, 0, none⟩)] w fun e w' => e = .returned (.tuple #[]) /\ DAt w' p wz /\ Off (· = p) w w' := by
 go_enter Tryz.func273, Tryz.ntmps273
 go_wp2_with (refine storeD rfl (.tmp 6) (.tmp 5) rfl rfl (t := wz) rfl a ?_)
 go_end0
 exact ⟨rfl, DAt.row a wz, offW_row _ _ _⟩
theorem sErr_0 : sErr9 0 = 0 := rfl
theorem sErr_4 : sErr9 4 = 0 := rfl
theorem sErr_8 : sErr9 8 = 0 := rfl
theorem sErr_12 : sErr9 12 = 0 := rfl
set_option maxHeartbeats 800000 in
theorem rsStore0 (t : Rs) (v : Int) (p : Nat) (w : World) (h : t.ok) (a : SAt w p tS t) (v0 : 0 <= v) (v1 : v < 4294967296) :
 Calls Tryz.prog 280 #[.pointer (some ⟨p, 0, none⟩), .int .u32 0, .int .u32 v] w fun e w' => e = .returned (.int .i64 0) /\ SAt w' p tS (t.clr v) /\ Off (· = p) w w' := by
 have HC := Hd (fun w a => by have := rsCheck t 0 p w h a (by omega) (by omega); rw [sErr_0] at this; exact this)
 go_enter Tryz.func280, Tryz.ntmps280
 go_wp2_with fail
 refine (HC.out _ a).mono ?_
 rintro e w1 ⟨rfl, h1⟩
 have A := a.below h1
 have x0 := A.c0
 have f0 := A.free 0
 have Z := A.s0 (bits BinOp.andNot IntKind.u32 t.ca v)
 have hO := (Off.ofBelow (S := (· = p)) h1).trans (off_set w1 p 0 (.int .u32 (bits BinOp.andNot IntKind.u32 t.ca v)))
 have Z2 := Z.below (trD (tr0 _))
 have hO2 := hO.trans (off_drew _)
 clear a h1 HC
 go_wp2_with fail
 go_region
 all_goals
  go_wp2_with fail
  go_ret
  first | exact ⟨rfl, Z, hO⟩ | exact ⟨rfl, Z2, hO2⟩
theorem rsStore8 (t : Rs) (v : Int) (p : Nat) (w : World) (h : t.ok) (a : SAt w p tS t) (v0 : 0 <= v) (v1 : v < 4294967296) :
 Calls Tryz.prog 280 #[.pointer (some ⟨p, 0, none⟩), .int .u32 8, .int .u32 v] w fun e w' => e = .returned (.int .i64 0) /\ SAt w' p tS (t.ask v) /\ Off (· = p) w w' := by
 have HC := Hd (fun w a => by have := rsCheck t 8 p w h a (by omega) (by omega); rw [sErr_8] at this; exact this)
 obtain ⟨q, hq⟩ : ∃ q, t.qs = q := ⟨_, rfl⟩
 obtain ⟨z, hz⟩ : ∃ z, (v == 45063) = z := ⟨_, rfl⟩
 have HK := Hd (show (⟨t.ca, t.ct, t.la, q || z⟩ : Rs) = t.ask v by unfold Rs.ask; rw [hq, hz])
 cases q
 . cases z
   all_goals
    go_enter Tryz.func280, Tryz.ntmps280
    go_wp2_with fail
    refine (HC.out _ a).mono ?_
    rintro e w1 ⟨rfl, h1⟩
    have A := a.below h1
    have x0 := A.c4
    rw [hq] at x0
    have f0 := A.free 4
    clear hq a HC
    go_wp2_with fail
    go_ret
    refine ⟨rfl, by rw [<- HK.out]; exact A.s4 _, (Off.ofBelow (S := (· = p)) h1).trans (off_set w1 p 4 _)⟩
 . go_enter Tryz.func280, Tryz.ntmps280
   go_wp2_with fail
   refine (HC.out _ a).mono ?_
   rintro e w1 ⟨rfl, h1⟩
   have A := a.below h1
   have x0 := A.c4
   rw [hq] at x0
   have f0 := A.free 4
   clear hq a HC
   go_wp2_with fail
   go_ret
   refine ⟨rfl, by rw [<- HK.out]; exact A.s4 _, (Off.ofBelow (S := (· = p)) h1).trans (off_set w1 p 4 _)⟩
theorem rsStoreR (t : Rs) (o v : Int) (p : Nat) (w : World) (h : t.ok) (a : SAt w p tS t) (ho : o = 4 \/ o = 12) :
 Calls Tryz.prog 280 #[.pointer (some ⟨p, 0, none⟩), .int .u32 o, .int .u32 v] w fun e w' => e = .returned (.int .i64 12) /\ Below w.heap.size w w' := by
 rcases ho with rfl | rfl
 . have HC := Hd (fun w a => by have := rsCheck t 4 p w h a (by omega) (by omega); rw [sErr_4] at this; exact this)
   go_enter Tryz.func280, Tryz.ntmps280
   go_wp2_with fail
   refine (HC.out _ a).mono ?_
   rintro e w1 ⟨rfl, h1⟩
   go_wp2_with fail
   go_ret
   exact ⟨rfl, h1⟩
 . have HC := Hd (fun w a => by have := rsCheck t 12 p w h a (by omega) (by omega); rw [sErr_12] at this; exact this)
   go_enter Tryz.func280, Tryz.ntmps280
   go_wp2_with fail
   refine (HC.out _ a).mono ?_
   rintro e w1 ⟨rfl, h1⟩
   go_wp2_with fail
   go_ret
   exact ⟨rfl, h1⟩
theorem rsStoreE (t : Rs) (o v : Int) (p : Nat) (w : World) (h : t.ok) (a : SAt w p tS t) (o0 : 0 <= o) (o1 : o < 4294967296) (he : sErr9 o ≠ 0) :
 Calls Tryz.prog 280 #[.pointer (some ⟨p, 0, none⟩), .int .u32 o, .int .u32 v] w fun e w' => e = .returned (.int .i64 (sErr9 o)) /\ Below w.heap.size w w' := by
 have HC := Hd (fun w a => rsCheck t o p w h a o0 o1)
 obtain ⟨E, hE⟩ : ∃ E, sErr9 o = E := ⟨_, rfl⟩
 rw [hE] at HC he ⊢
 have q1 : (E != 0) = true := by simpa using he
 clear hE he
 go_enter Tryz.func280, Tryz.ntmps280
 go_wp2_with fail
 refine (HC.out _ a).mono ?_
 rintro e w1 ⟨rfl, h1⟩
 go_wp2_with fail
 go_ret
 exact ⟨rfl, h1⟩
theorem rsStore (t : Rs) (o v : Int) (p : Nat) (w : World) (h : t.ok) (a : SAt w p tS t) (o0 : 0 <= o) (o1 : o < 4294967296) (v0 : 0 <= v) (v1 : v < 4294967296) :
 Calls Tryz.prog 280 #[.pointer (some ⟨p, 0, none⟩), .int .u32 o, .int .u32 v] w fun e w' => e = .returned (.int .i64 (wErr9 o)) /\ SAt w' p tS (t.sto o v) /\ Off (· = p) w w' := by
 by_cases he : sErr9 o = 0
 . rcases sErr9_zero o0 he with rfl | rfl | rfl | rfl
   . exact rsStore0 t v p w h a v0 v1
   . refine (rsStoreR t 4 v p w h a (by omega)).mono ?_
     rintro e w1 ⟨rfl, h1⟩
     exact ⟨rfl, a.below h1, Off.ofBelow h1⟩
   . exact rsStore8 t v p w h a v0 v1
   . refine (rsStoreR t 12 v p w h a (by omega)).mono ?_
     rintro e w1 ⟨rfl, h1⟩
     exact ⟨rfl, a.below h1, Off.ofBelow h1⟩
 . have e1 : wErr9 o = sErr9 o := by unfold wErr9; rw [if_pos he]
   have e2 : t.sto o v = t := by
    unfold Rs.sto
    rw [if_neg (fun e => he (by rw [e]; rfl)), if_neg (fun e => he (by rw [e]; rfl))]
   rw [e1, e2]
   refine (rsStoreE t o v p w h a o0 o1 he).mono ?_
   rintro e w1 ⟨rfl, h1⟩
   exact ⟨rfl, a.below h1, Off.ofBelow h1⟩
end Go.Proofs.YtpojmmgokgamgaaGreat.B
