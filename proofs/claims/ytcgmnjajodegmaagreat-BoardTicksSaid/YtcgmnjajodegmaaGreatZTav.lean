/- Several texts in one: Package clint: Store, Copy. Package clint: Copy. What New and Copy of a bank return. Layer 8: Tick, Reset, Copy of a Wdog. -/
import Derived.Test.YtcgmnjajodegmaaGreatZTag
import Derived.Test.YtcgmnjajodegmaaGreatZTaj
import Derived.Test.YtcgmnjajodegmaaGreatZTau
import Derived.Shelf.SlMaps.Clone
set_option linter.unusedVariables false
set_option linter.unusedSimpArgs false
set_option maxRecDepth 100000
namespace Go.Proofs.YtcgmnjajodegmaaGreat.B
open Go.ChangeShapes Go.WideShapes Go.RowKit Go.Sort Go.MapKept
theorem field_bit0 (v : Int) (v0 : 0 <= v) : field v 0 1 = v % 2 := by
 unfold field inw
 simp
 omega
def RegAt (W : World) (x : Nat) (k h : Int) : Prop := W.heap[x]? = some (.cells #[.int .i64 k, .int .i64 h] 247 (0, 0))
theorem RegAt.c0 {W : World} {x : Nat} {k h : Int} (a : RegAt W x k h) : W.cell? ⟨x, 0, none⟩ = some (.int .i64 k) := by have := blk_cell a 0; simpa using this
theorem RegAt.c1 {W : World} {x : Nat} {k h : Int} (a : RegAt W x k h) : W.cell? ⟨x, 1, none⟩ = some (.int .i64 h) := by have := blk_cell a 1; simpa using this
theorem RegAt.lt {W : World} {x : Nat} {k h : Int} (a : RegAt W x k h) : x < W.heap.size := lt_of_block a
theorem cStoreSoft (v t : Int) (h n : Nat) (D S : Nat -> Int) (p m : Nat) (w : World) (hc : CAt w p m t n D S) (hn : h < n) (v0 : 0 <= v) (v1 : v < 4294967296) :
 Calls Tryz.prog 262 #[.pointer (some ⟨p, 0, none⟩), .int .u32 (4 * (h : Int)), .int .u32 v] w
  fun e w' => e = .returned (.int .i64 0) /\ CAt w' p m t n D (upd S h (v % 2)) /\ Off (· = p) w w' := by
 have n8 := hc.n1
 have hh : h < 8 := by omega
 go_enter Tryz.func262, Tryz.ntmps262
 go_wp2_with fail
 refine (cFind (4 * (h : Int)) t 0 h n D S p m _ hc (by omega) (ne4 (by omega)) (lay_soft hn)).mono ?_
 rintro e w1 ⟨rfl, hb⟩
 have H := Hd (hc.below (trA hb (.cells #[.int .i64 0, .int .i64 h] 247)))
 have X := blk_new w1 (.cells #[.int .i64 0, .int .i64 h] 247)
 have HB := Hd (trA hb (.cells #[.int .i64 0, .int .i64 h] 247))
 clear hc hb
 go_upto_region 2 with (fail)
 generalize (w1.alloc (.cells #[.int .i64 0, .int .i64 h] 247)) = W at *
 generalize w1.heap.size = x at *
 have R : RegAt W x 0 h := X
 have x0 := R.c0
 have x1 := R.c1
 have hx := R.lt
 clear X R
 have hp := H.out.ltp
 have cS := H.out.cS h hh
 have fS := H.out.free (10 + h)
 have hg := gcell
 have hf := gfrozen
 go_wp2_with fail
 refine wp_region_tail_below 8 (by kernel_rfl) (by kernel_rfl) ?_
 simp only [List.take_succ_cons, List.take_zero, List.drop_succ_cons, List.drop_zero]
 repeat (go_big_quiet_step (first | (go_at_call 196; exact Calls.regrown_of ((Field v 0 1 _ v0 v1 (by omega) (by omega)).mono fun _ _ g => ⟨g.1, by obtain ⟨_, j, rfl⟩ := g; exact trN (tr0 _) _⟩))))
 refine wpQuiet_nil ?_
 intro _ hw'
 obtain ⟨⟨dq, osq⟩, hw''⟩ := hw'
 subst hw''
 have hb2 := below_regrown W dq osq
 have E := Hd (field_bit0 v v0)
 have H2 := Hd ((H.out.below hb2).setS h (v := v % 2) hh (by omega) (by omega))
 have O2 := Hd (((Off.ofBelow (S := (· = p)) (tr HB.out hb2))).trans (off_set _ p (10 + h) (.int .u32 (v % 2))))
 go_wp2_with fail
 go_ret
 rw [E.out]
 exact ⟨rfl, H2.out, O2.out⟩
theorem cStoreLow (v t : Int) (h n : Nat) (D S : Nat -> Int) (p m : Nat) (w : World) (hc : CAt w p m t n D S) (hn : h < n) (v0 : 0 <= v) (v1 : v < 4294967296) :
 Calls Tryz.prog 262 #[.pointer (some ⟨p, 0, none⟩), .int .u32 (16384 + 8 * (h : Int)), .int .u32 v] w
  fun e w' => e = .returned (.int .i64 0) /\ CAt w' p m t n (upd D h (join (hi (D h)) v)) S /\ Off (· = p) w w' := by
 have n8 := hc.n1
 have hh : h < 8 := by omega
 go_enter Tryz.func262, Tryz.ntmps262
 go_wp2_with fail
 refine (cFind (16384 + 8 * (h : Int)) t 1 h n D S p m _ hc (by omega) (ne4 (by omega)) (lay_low hn)).mono ?_
 rintro e w1 ⟨rfl, hb⟩
 have H := Hd (hc.below (trA hb (.cells #[.int .i64 1, .int .i64 h] 247)))
 have X := blk_new w1 (.cells #[.int .i64 1, .int .i64 h] 247)
 have HB := Hd (trA hb (.cells #[.int .i64 1, .int .i64 h] 247))
 clear hc hb
 go_upto_region 2 with (fail)
 generalize (w1.alloc (.cells #[.int .i64 1, .int .i64 h] 247)) = W at *
 generalize w1.heap.size = x at *
 have R : RegAt W x 1 h := X
 have x0 := R.c0
 have x1 := R.c1
 have hx := R.lt
 clear X R
 have hp := H.out.ltp
 have cD := H.out.cD h hh
 obtain ⟨d0, d1⟩ := H.out.d h
 have fS := H.out.free (2 + h)
 have hg := gcell
 have hf := gfrozen
 go_wp2_with fail
 refine wp_region_tail_below 16 (by kernel_rfl) (by kernel_rfl) ?_
 simp only [List.take_succ_cons, List.take_zero, List.drop_succ_cons, List.drop_zero]
 repeat (go_big_quiet_step (first | (go_at_call 192; exact Calls.regrown_of ((Hi _ _ d0 d1).mono fun _ _ g => ⟨g.1, g.2 ▸ tr0 _⟩)) | (go_at_call 248; exact Calls.regrown_of ((Join _ _ _ (hi_nonneg d0) (hi_lt d1) v0 v1).mono fun _ _ g => ⟨g.1, g.2 ▸ tr0 _⟩))))
 refine wpQuiet_nil ?_
 intro _ hw'
 obtain ⟨⟨dq, osq⟩, hw''⟩ := hw'
 subst hw''
 have hb2 := below_regrown W dq osq
 have vb := join_bounds (hi_nonneg d0) (hi_lt d1) v0 v1
 have H2 := Hd ((H.out.below hb2).setD h (v := join (hi (D h)) v) hh vb.1 vb.2)
 have O2 := Hd (((Off.ofBelow (S := (· = p)) (tr HB.out hb2))).trans (off_set _ p (2 + h) (.int .u64 (join (hi (D h)) v))))
 clear vb
 go_wp2_with fail
 go_ret
 exact ⟨rfl, H2.out, O2.out⟩
theorem cStoreHigh (v t : Int) (h n : Nat) (D S : Nat -> Int) (p m : Nat) (w : World) (hc : CAt w p m t n D S) (hn : h < n) (v0 : 0 <= v) (v1 : v < 4294967296) :
 Calls Tryz.prog 262 #[.pointer (some ⟨p, 0, none⟩), .int .u32 (16384 + 8 * (h : Int) + 4), .int .u32 v] w
  fun e w' => e = .returned (.int .i64 0) /\ CAt w' p m t n (upd D h (join v (lo (D h)))) S /\ Off (· = p) w w' := by
 have n8 := hc.n1
 have hh : h < 8 := by omega
 go_enter Tryz.func262, Tryz.ntmps262
 go_wp2_with fail
 refine (cFind (16384 + 8 * (h : Int) + 4) t 2 h n D S p m _ hc (by omega) (ne4 (by omega)) (lay_high hn)).mono ?_
 rintro e w1 ⟨rfl, hb⟩
 have H := Hd (hc.below (trA hb (.cells #[.int .i64 2, .int .i64 h] 247)))
 have X := blk_new w1 (.cells #[.int .i64 2, .int .i64 h] 247)
 have HB := Hd (trA hb (.cells #[.int .i64 2, .int .i64 h] 247))
 clear hc hb
 go_upto_region 2 with (fail)
 generalize (w1.alloc (.cells #[.int .i64 2, .int .i64 h] 247)) = W at *
 generalize w1.heap.size = x at *
 have R : RegAt W x 2 h := X
 have x0 := R.c0
 have x1 := R.c1
 have hx := R.lt
 clear X R
 have hp := H.out.ltp
 have cD := H.out.cD h hh
 obtain ⟨d0, d1⟩ := H.out.d h
 have fS := H.out.free (2 + h)
 have hg := gcell
 have hf := gfrozen
 go_wp2_with fail
 refine wp_region_tail_below 16 (by kernel_rfl) (by kernel_rfl) ?_
 simp only [List.take_succ_cons, List.take_zero, List.drop_succ_cons, List.drop_zero]
 repeat (go_big_quiet_step (first | (go_at_call 164; exact Calls.regrown_of ((Lo _ _ d0 d1).mono fun _ _ g => ⟨g.1, g.2 ▸ tr0 _⟩)) | (go_at_call 248; exact Calls.regrown_of ((Join _ _ _ v0 v1 (lo_nonneg _) (lo_lt _)).mono fun _ _ g => ⟨g.1, g.2 ▸ tr0 _⟩))))
 refine wpQuiet_nil ?_
 intro _ hw'
 obtain ⟨⟨dq, osq⟩, hw''⟩ := hw'
 subst hw''
 have hb2 := below_regrown W dq osq
 have vb := join_bounds v0 v1 (lo_nonneg (D h)) (lo_lt (D h))
 have H2 := Hd ((H.out.below hb2).setD h (v := join v (lo (D h))) hh vb.1 vb.2)
 have O2 := Hd (((Off.ofBelow (S := (· = p)) (tr HB.out hb2))).trans (off_set _ p (2 + h) (.int .u64 (join v (lo (D h))))))
 clear vb
 go_wp2_with fail
 go_ret
 exact ⟨rfl, H2.out, O2.out⟩
theorem cStoreErr (o v t : Int) (n : Nat) (D S : Nat -> Int) (p m : Nat) (w : World) (hc : CAt w p m t n D S) (E : Int) (hE : (E != 0) = true) (hE2 : (E == 0) = false)
 (hf : Calls Tryz.prog 264 #[.pointer (some ⟨p, 0, none⟩), .int .u32 o] w fun e w' => e = .returned (.tuple #[.agg #[.int .i64 0, .int .i64 0], .int .i64 E]) /\ Below w.heap.size w w') :
 Calls Tryz.prog 262 #[.pointer (some ⟨p, 0, none⟩), .int .u32 o, .int .u32 v] w
  fun e w' => e = .returned (.int .i64 E) /\ CAt w' p m t n D S /\ Off (· = p) w w' := by
 have HF := Hd hf
 clear hf
 go_enter Tryz.func262, Tryz.ntmps262
 go_wp2_with fail
 refine HF.out.mono ?_
 rintro e w1 ⟨rfl, hb⟩
 have H := Hd (hc.below (trA hb (.cells #[.int .i64 0, .int .i64 0] 247)))
 have O := Hd (Off.ofBelow (S := (· = p)) (trA hb (.cells #[.int .i64 0, .int .i64 0] 247)))
 clear hc hb
 go_wp2_with fail
 go_ret
 exact ⟨rfl, H.out, O.out⟩
theorem cStoreTime (o v t : Int) (k n : Nat) (D S : Nat -> Int) (p m : Nat) (w : World) (hc : CAt w p m t n D S) (hk : k = 3 \/ k = 4) (o0 : 0 <= o) (o4 : (o % 4 != 0) = false) (hin : (o, regV k (0 : Nat)) ∈ lay n) :
 Calls Tryz.prog 262 #[.pointer (some ⟨p, 0, none⟩), .int .u32 o, .int .u32 v] w
  fun e w' => e = .returned (.int .i64 12) /\ CAt w' p m t n D S /\ Off (· = p) w w' := by
 rcases hk with rfl | rfl
 all_goals
  go_enter Tryz.func262, Tryz.ntmps262
  go_wp2_with fail
  refine (cFind o t _ _ n D S p m _ hc o0 o4 hin).mono ?_
  rintro e w1 ⟨rfl, hb⟩
  go_wp2_with fail
  go_ret
  exact ⟨rfl, hc.below (trA hb _), Off.ofBelow (trA hb _)⟩
theorem cStore (o v t : Int) (n : Nat) (D S : Nat -> Int) (p m : Nat) (w : World) (hc : CAt w p m t n D S) (o0 : 0 <= o) (o1 : o < 4294967296) (v0 : 0 <= v) (v1 : v < 4294967296) :
 Calls Tryz.prog 262 #[.pointer (some ⟨p, 0, none⟩), .int .u32 o, .int .u32 v] w
  fun e w' => e = .returned (.int .i64 (cErrS n o)) /\ CAt w' p m t n (cPutD n D o v) (cPutS n S o v) /\ Off (· = p) w w' := by
 have n8 := hc.n1
 rcases at_all n o with h | h | h | ⟨h, hn, e⟩ | ⟨h, hn, e⟩ | ⟨h, hn, e⟩ | ⟨h4, h1, h2, h⟩
 . have he : cErrS n o = 11 := by rw [err_errS (by rw [odd_err h]; omega), odd_err h]
   rw [he, err_putD (by rw [he]; omega), err_putS (by rw [he]; omega)]
   exact cStoreErr o v t n D S p m w hc 11 rfl rfl (cFindBad o p w o0 (by simpa using h))
 . subst h; rw [lo_errS, err_putD (by rw [lo_errS]; omega), err_putS (by rw [lo_errS]; omega)]; exact cStoreTime _ v t 3 n D S p m w hc (.inl rfl) o0 (by decide) (lay_lo n)
 . subst h; rw [hi_errS, err_putD (by rw [hi_errS]; omega), err_putS (by rw [hi_errS]; omega)]; exact cStoreTime _ v t 4 n D S p m w hc (.inr rfl) o0 (by decide) (lay_hi n)
 . subst e; rw [soft_errS hn n8, soft_putD hn n8, soft_putS hn n8]; exact cStoreSoft v t h n D S p m w hc hn v0 v1
 . subst e; rw [low_errS hn n8, low_putD hn n8, low_putS hn]; exact cStoreLow v t h n D S p m w hc hn v0 v1
 . subst e; rw [high_errS hn n8, high_putD hn n8, high_putS hn]; exact cStoreHigh v t h n D S p m w hc hn v0 v1
 . have hr := none_err (n := n) o0 h4 h1 h2 h
   have he : cErrS n o = 10 := by rw [err_errS (by rw [hr]; omega), hr]
   rw [he, err_putD (by rw [he]; omega), err_putS (by rw [he]; omega)]
   exact cStoreErr o v t n D S p m w hc 10 rfl rfl (cFindNone o t n D S p m w hc o0 o1 (by simpa using h4) (lay_none n o h1 h2 h))
set_option maxRecDepth 100000 in
theorem cClone (m n : Nat) (w : World) (hm : mapP w ek ok32 m (lay n)) :
 Calls Tryz.prog 170 #[.map (some m)] w
  fun e w' => e = .returned (.map (some w.heap.size)) /\ mapP w' ek ok32 w.heap.size (lay n) /\ Below w.heap.size w w' := by
 obtain ⟨es, c, hb, h1, h2, h3⟩ := hm
 have hq := fun w => run_eql_map_nil_sl (P := Tryz.prog) w 191 _ _ (some m) Tryz.underlying191
 have HK := Hd (show mapP (w.alloc (.map es c)) ek ok32 w.heap.size (lay n) from ⟨es, c, blk_new w _, h1, h2, h3⟩)
 clear h1 h2 h3
 go_enter Tryz.func170, Tryz.ntmps170
 go_wp2
 rw [run_callFunc_extern Tryz.func193 (by kernel_rfl) (by kernel_rfl) (by kernel_rfl) (e := Extern.MapsClone.clone) (by kernel_rfl), run_maps_clone_sl w 191 hb]
 simp only [Result.andThen]
 rw [Oper.upon_value]
 go_wp2
 rw [run_typeAssert_map_sl _ 191 20 _ _ _ Tryz.underlying191]
 simp only [Result.andThen]
 rw [Oper.upon_value]
 go_wp2
 go_ret
 exact ⟨rfl, HK.out, trA (tr0 w) _⟩
theorem iClint : (Tryz.prog.info? 193).map (·.size) = some 19 := by kernel_rfl
def CCopy (w : World) (t : Int) (n : Nat) (D S : Nat -> Int) (e : Ending) (w' : World) : Prop :=
 ∃ m', w.heap.size < m' /\ e = .returned (.pointer (some ⟨w.heap.size, 0, none⟩)) /\ CAt w' w.heap.size m' t n D S /\ Below w.heap.size w w'
theorem cCopy (t : Int) (n : Nat) (D S : Nat -> Int) (p m : Nat) (w : World) (hc : CAt w p m t n D S) :
 Calls Tryz.prog 121 #[.pointer (some ⟨p, 0, none⟩)] w (CCopy w t n D S) := by
 have hl := hc.ltp
 have HC := Hd hc
 clear hc
 go_enter Tryz.func121, Tryz.ntmps121
 go_upto_region 4 with (first
  | (refine wpList_load_part rfl 193 (.tmp 7) rfl p 0 rfl _ (ccl t n D S m) HC.out.cell Tryz.underlying193 rfl (by rw [ccl_len]; exact iClint) (part_all _) ?_)
  | (refine wpList_store_part rfl 193 (.tmp 3) (.tmp 8) rfl _ 0 rfl (ccl t n D S m) rfl (blk_new _ _) (by rw [ccl_len]; exact iClint) (by rw [ccl_len]; decide) (ccl_one _ _ _ _ _) ?_))
 rw [spliced_all _ _ (by rw [ccl_len]; rfl)]
 have hK := row_set (ccl t n D S m).toArray (blk_new w (.cells #[.int .u64 0, .int .i64 0, .int .u64 0, .int .u64 0, .int .u64 0, .int .u64 0, .int .u64 0, .int .u64 0, .int .u64 0, .int .u64 0, .int .u32 0, .int .u32 0, .int .u32 0, .int .u32 0, .int .u32 0, .int .u32 0, .int .u32 0, .int .u32 0, .map none] 193))
 have hB := below_setRow (trA (tr0 w) (.cells #[.int .u64 0, .int .i64 0, .int .u64 0, .int .u64 0, .int .u64 0, .int .u64 0, .int .u64 0, .int .u64 0, .int .u64 0, .int .u64 0, .int .u32 0, .int .u32 0, .int .u32 0, .int .u32 0, .int .u32 0, .int .u32 0, .int .u32 0, .int .u32 0, .map none] 193)) (ccl t n D S m).toArray (Nat.le_refl w.heap.size)
 generalize (w.alloc (.cells #[.int .u64 0, .int .i64 0, .int .u64 0, .int .u64 0, .int .u64 0, .int .u64 0, .int .u64 0, .int .u64 0, .int .u64 0, .int .u64 0, .int .u32 0, .int .u32 0, .int .u32 0, .int .u32 0, .int .u32 0, .int .u32 0, .int .u32 0, .int .u32 0, .map none] 193)).setRow w.heap.size (ccl t n D S m).toArray = W at *
 have c := (HC.out.below hB).cM
 have f := blk_free hK 18
 have hM := (HC.out.below hB).map
 have K := Hd hK
 have hs : w.heap.size < W.heap.size := lt_of_block hK
 have HB := Hd hB
 clear hK hB
 go_wp2_with fail
 refine (cClone m n W hM).mono ?_
 rintro e w2 ⟨rfl, hM2, hb2⟩
 have K2 := blk_below hb2 K.out hs
 have c2 := blk_cell K2 18
 have f2 := blk_free K2 18
 rw [List.getElem?_toArray, ccl_M] at c2
 have HK2 := Hd K2
 clear K2
 go_wp2_with fail
 go_ret
 have hm2 := hM2.lt
 refine ⟨W.heap.size, hs, rfl, ⟨?_, hM2.kept (Below.heap_setCell _ _ _ _ (by show W.heap.size ≠ w.heap.size; omega)), HC.out.t0, HC.out.t1, HC.out.n0, HC.out.n1, HC.out.d, HC.out.s⟩, (tr HB.out hb2).setCell (p := ⟨w.heap.size, 18, none⟩) (Nat.le_refl _) _⟩
 rw [blk_set HK2.out]
 simp only [List.setIfInBounds_toArray]
 rw [ccl_setM]
end Go.Proofs.YtcgmnjajodegmaaGreat.B
namespace Go.Proofs.YtcgmnjajodegmaaGreat.B
open Go.ChangeShapes Go.WideShapes Go.RowKit Go.Sort
def rmO : Obj := .cells (rm 0 (fun _ => 0)).toArray tRm (0, 0)
theorem rmO_eq : Obj.cells #[.pointer none, .pointer none, .pointer none, .pointer none, .pointer none, .pointer none, .pointer none, .pointer none] tRm (0, 0) = rmO := rfl
theorem RmAt.push {w w' : World} {g k r : Nat} {q : Nat -> Nat} {t : Nat -> Tm} (h : RmAt w g k q t) (hb : Below w.heap.size w w') (hk : k < 8) (a : TAt w' r tC (t k)) (o : (t k).ok) (hr : w.heap.size <= r) :
 RmAt (w'.setCell ⟨g, k, none⟩ (.pointer (some ⟨r, 0, none⟩))) g (k + 1) (fun i => if i = k then r else q i) t := by
 have h' := h.below hb
 have hrg : r ≠ g := by have := h.lt; omega
 refine ⟨?_, ?_, ?_, ?_, by omega⟩
 . rw [blk_set h'.room, set_arr, show Value.pointer (some ⟨r, 0, none⟩) = ptr r from rfl, rm_set k q r hk]
 . intro i hi
   by_cases e : i = k
   . subst e; rw [if_pos rfl]; exact a.other _ _ _ hrg
   . rw [if_neg e]; exact (h'.tms i (by omega)).other _ _ _ (h'.gne (by omega))
 . intro i hi
   by_cases e : i = k
   . subst e; exact o
   . exact h.ok i (by omega)
 . intro i j hi hj e
   by_cases ei : i = k <;> by_cases ej : j = k
   . rw [ei, ej]
   . rw [if_pos ei, if_neg ej] at e; have := h.ltq (show j < k by omega); omega
   . rw [if_neg ei, if_pos ej] at e; have := h.ltq (show i < k by omega); omega
   . rw [if_neg ei, if_neg ej] at e; exact h.one i j (by omega) (by omega) e
theorem rm_start (w : World) (t : Nat -> Tm) : RmAt (w.alloc rmO) w.heap.size 0 (fun _ => 0) t :=
 ⟨blk_new w rmO, fun i hi => by omega, fun i hi => by omega, fun i j hi => by omega, by omega⟩
theorem bNew1 (i : Int) (w : World) : Calls Tryz.prog 143 #[.int .i64 i] w fun e w' => e = .returned (.pointer (some ⟨w.heap.size, 0, none⟩)) /\ w' = w.alloc (.cells (wl tz).toArray tC (0, 0)) := by
 go_enter Tryz.func143, Tryz.ntmps143
 go_wp2_with fail
 refine (nNew w).mono ?_
 rintro e w1 ⟨rfl, rfl⟩
 go_wp2_with fail
 go_ret
 exact ⟨rfl, rfl⟩
theorem bRowNew {n : Nat} (n8 : n <= 8) (w : World) :
 Calls Tryz.prog 133 #[.int .i64 n, .func (.func 143) #[] #[]] w fun e w' => ∃ q' : Nat -> Nat, e = .returned (.slice (some ⟨w.heap.size, 0, none⟩) n n) /\ RmAt w' w.heap.size n q' (fun _ => tz) /\ Below w.heap.size w w' /\ ∀ i, i < n -> w.heap.size <= q' i := by
 have R0 := rm_start w (fun _ => tz)
 have B0 := trA (tr0 w) rmO
 go_enter Tryz.func133, Tryz.ntmps133
 go_upto_region 2 with (fail)
 rw [rmO_eq]
 generalize w.alloc rmO = W at *
 go_wp2_with fail
 go_loopw [8] (fun i wr => ∃ (k : Nat) (q' : Nat -> Nat), k <= n /\ i = .int .i64 k /\ RmAt wr w.heap.size k q' (fun _ => tz) /\ Below w.heap.size w wr /\ ∀ i, i < k -> w.heap.size <= q' i) (fun i wr => n - (intOf i).toNat)
 case atStart => exact ⟨0, _, by omega, rfl, R0, B0, fun i hi => by omega⟩
 case round =>
  clear R0 B0
  obtain ⟨k, q', hk, rfl, R, hB, hq⟩ := hrel
  by_cases hlt : k < n
  . skip
    go_wp2_with fail
    refine (bNew1 k wr).mono ?_
    rintro e w1 ⟨rfl, rfl⟩
    have hb1 := trA (tr0 wr) (.cells (wl tz).toArray tC (0, 0))
    have a1 : TAt (wr.alloc (.cells (wl tz).toArray tC (0, 0))) wr.heap.size tC tz := blk_new wr _
    have R2 := R.push hb1 (by omega) a1 tz_ok (Nat.le_refl _)
    have hB2 := (tr hB hb1).setCell (p := ⟨w.heap.size, k, none⟩) (Nat.le_refl _) (.pointer (some ⟨wr.heap.size, 0, none⟩))
    have hf : (wr.alloc (.cells (wl tz).toArray tC (0, 0))).frozen? ⟨w.heap.size, k, none⟩ = false := blk_free (R.below hb1).room k
    have hc : ∃ v, (wr.alloc (.cells (wl tz).toArray tC (0, 0))).cell? ⟨w.heap.size, k, none⟩ = some v := by
     rw [blk_cell (R.below hb1).room k]
     have : k < (rm k q').length := by rw [rm_len]; omega
     rw [List.getElem?_toArray]
     exact ⟨_, List.getElem?_eq_getElem this⟩
    obtain ⟨v, hc⟩ := hc
    have hsz : w.heap.size <= wr.heap.size := hB.size
    have hq2 : ∀ i, i < k + 1 -> w.heap.size <= (fun i => if i = k then wr.heap.size else q' i) i := by
     intro i hi
     by_cases e : i = k
     . subst e; show w.heap.size <= (if i = i then wr.heap.size else q' i); rw [if_pos rfl]; exact hsz
     . show w.heap.size <= (if i = k then wr.heap.size else q' i); rw [if_neg e]; exact hq i (by omega)
    have HR := Hd R2
    have HB := Hd hB2
    have HQ := Hd hq2
    clear R hB R2 hB2 hq hq2 a1 hb1 
    generalize wr.alloc (.cells (wl tz).toArray tC (0, 0)) = W1 at *
    generalize wr.heap.size = r at *
    go_wp2_with fail
    go_roundw
    case rel => exact ⟨k + 1, _, by omega, by go_num, HR.out, HB.out, HQ.out⟩
    case measure => simp [intOf]; omega
  . obtain rfl : k = n := by omega
    have HR := Hd R
    clear R
    have hal : Tryz.prog.arrayLen 252 = 8 := by kernel_rfl
    have hk8 : (k : Int) <= 8 := by omega
    go_wp2_with fail
    go_ret
    exact ⟨q', rfl, HR.out, hB, hq⟩
theorem bRowCopy {n : Nat} {w0 : World} {p g : Nat} {q : Nat -> Nat} {t : Nat -> Tm} (h : BkAt w0 p g n q t) (n8 : n <= 8) (w : World) (hb0 : Below w0.heap.size w0 w) :
 Calls Tryz.prog 133 #[.int .i64 n, .func (.func 106) #[.pointer (some ⟨p, 0, none⟩)] #[]] w fun e w' => ∃ q' : Nat -> Nat, e = .returned (.slice (some ⟨w.heap.size, 0, none⟩) n n) /\ RmAt w' w.heap.size n q' t /\ Below w.heap.size w w' /\ ∀ i, i < n -> w.heap.size <= q' i := by
 have R0 := rm_start w t
 have B0 := trA (tr0 w) rmO
 go_enter Tryz.func133, Tryz.ntmps133
 go_upto_region 2 with (fail)
 rw [rmO_eq]
 generalize w.alloc rmO = W at *
 go_wp2_with fail
 go_loopw [8] (fun i wr => ∃ (k : Nat) (q' : Nat -> Nat), k <= n /\ i = .int .i64 k /\ RmAt wr w.heap.size k q' t /\ Below w.heap.size w wr /\ ∀ i, i < k -> w.heap.size <= q' i) (fun i wr => n - (intOf i).toNat)
 case atStart => exact ⟨0, _, by omega, rfl, R0, B0, fun i hi => by omega⟩
 case round =>
  clear R0 B0
  obtain ⟨k, q', hk, rfl, R, hB, hq⟩ := hrel
  by_cases hlt : k < n
  . have H := h.below (hb0.trans (hB.mono hb0.size))
    have ok := h.rm.ok k hlt
    go_wp2_with fail
    refine (bTimer H k hlt).mono ?_
    rintro e w1 ⟨rfl, rfl⟩
    have hb1 := trA (tr0 wr) (.cells (wl (t k)).toArray tC (0, 0))
    have a1 : TAt (wr.alloc (.cells (wl (t k)).toArray tC (0, 0))) wr.heap.size tC (t k) := blk_new wr _
    have R2 := R.push hb1 (by omega) a1 ok (Nat.le_refl _)
    have hB2 := (tr hB hb1).setCell (p := ⟨w.heap.size, k, none⟩) (Nat.le_refl _) (.pointer (some ⟨wr.heap.size, 0, none⟩))
    have hf : (wr.alloc (.cells (wl (t k)).toArray tC (0, 0))).frozen? ⟨w.heap.size, k, none⟩ = false := blk_free (R.below hb1).room k
    have hc : ∃ v, (wr.alloc (.cells (wl (t k)).toArray tC (0, 0))).cell? ⟨w.heap.size, k, none⟩ = some v := by
     rw [blk_cell (R.below hb1).room k]
     have : k < (rm k q').length := by rw [rm_len]; omega
     rw [List.getElem?_toArray]
     exact ⟨_, List.getElem?_eq_getElem this⟩
    obtain ⟨v, hc⟩ := hc
    have hsz : w.heap.size <= wr.heap.size := hB.size
    have hq2 : ∀ i, i < k + 1 -> w.heap.size <= (fun i => if i = k then wr.heap.size else q' i) i := by
     intro i hi
     by_cases e : i = k
     . subst e; show w.heap.size <= (if i = i then wr.heap.size else q' i); rw [if_pos rfl]; exact hsz
     . show w.heap.size <= (if i = k then wr.heap.size else q' i); rw [if_neg e]; exact hq i (by omega)
    have HR := Hd R2
    have HB := Hd hB2
    have HQ := Hd hq2
    clear R hB R2 hB2 hq hq2 a1 hb1 H
    generalize wr.alloc (.cells (wl (t k)).toArray tC (0, 0)) = W1 at *
    generalize wr.heap.size = r at *
    go_wp2_with fail
    go_roundw
    case rel => exact ⟨k + 1, _, by omega, by go_num, HR.out, HB.out, HQ.out⟩
    case measure => simp [intOf]; omega
  . obtain rfl : k = n := by omega
    have HR := Hd R
    clear R
    have hal : Tryz.prog.arrayLen 252 = 8 := by kernel_rfl
    have hk8 : (k : Int) <= 8 := by omega
    go_wp2_with fail
    go_ret
    exact ⟨q', rfl, HR.out, hB, hq⟩
theorem bNew (n : Nat) (n0 : 1 <= n) (n8 : n <= 8) (w : World) :
 Calls Tryz.prog 73 #[.int .i64 n] w fun e w' => ∃ (p g : Nat) (q : Nat -> Nat), e = .returned (.tuple #[.pointer (some ⟨p, 0, none⟩), .int .i64 0]) /\ BkAt w' p g n q (fun _ => tz) /\ Below w.heap.size w w' /\ w.heap.size <= p /\ w.heap.size <= g /\ ∀ i, i < n -> w.heap.size <= q i := by
 go_enter Tryz.func73, Tryz.ntmps73
 go_wp2_with fail
 refine (bRowNew n8 w).mono ?_
 rintro e w1 ⟨q, rfl, R, hB, hq⟩
 have B1 := trA hB (.cells #[.slice (some ⟨w.heap.size, 0, none⟩) n n] tBk (0, 0))
 have K : BkAt (w1.alloc (.cells #[.slice (some ⟨w.heap.size, 0, none⟩) n n] tBk (0, 0))) w1.heap.size w.heap.size n q (fun _ => tz) := ⟨blk_new w1 _, R.below (trA (tr0 w1) _)⟩
 have hs := hB.size
 go_wp2_with fail
 go_ret2
 exact ⟨_, _, q, rfl, K, B1, hs, Nat.le_refl _, hq⟩
theorem bNewNo (n : Int) (h : n < 1 \/ 8 < n) (w : World) :
 Calls Tryz.prog 73 #[.int .i64 n] w fun e w' => e = .returned (.tuple #[.pointer none, .int .i64 5]) /\ w = w' := by
 by_cases h0 : n < 1
 . go_enter Tryz.func73, Tryz.ntmps73
   go_wp2_with fail
   go_ret2
   exact ⟨rfl, rfl⟩
 . have h8 : 8 < n := by omega
   clear h
   go_enter Tryz.func73, Tryz.ntmps73
   go_wp2_with fail
   go_ret2
   exact ⟨rfl, rfl⟩
theorem bCopy {n p g : Nat} {q : Nat -> Nat} {t : Nat -> Tm} {w : World} (h : BkAt w p g n q t) :
 Calls Tryz.prog 64 #[.pointer (some ⟨p, 0, none⟩)] w fun e w' => ∃ (p' g' : Nat) (q' : Nat -> Nat), e = .returned (.pointer (some ⟨p', 0, none⟩)) /\ BkAt w' p' g' n q' t /\ Below w.heap.size w w' /\ w.heap.size <= p' /\ w.heap.size <= g' /\ ∀ i, i < n -> w.heap.size <= q' i := by
 have hmf : ∀ (fn : Fn) (first cap : Array Value) (w : World), (Instr.makeFunc fn first cap).run Tryz.prog w = .ok (.func fn first cap) w := fun _ _ _ _ => rfl
 have n8 := h.rm.n8
 go_enter Tryz.func64, Tryz.ntmps64
 go_wp2_with fail
 refine (bLen h).mono ?_
 rintro e w1 ⟨rfl, rfl⟩
 go_wp2_with fail
 refine (bRowCopy h n8 w (tr0 w)).mono ?_
 rintro e w1 ⟨q', rfl, R, hB, hq⟩
 have B1 := trA hB (.cells #[.slice (some ⟨w.heap.size, 0, none⟩) n n] tBk (0, 0))
 have K : BkAt (w1.alloc (.cells #[.slice (some ⟨w.heap.size, 0, none⟩) n n] tBk (0, 0))) w1.heap.size w.heap.size n q' t := ⟨blk_new w1 _, R.below (trA (tr0 w1) _)⟩
 have hs := hB.size
 go_wp2_with fail
 go_ret
 exact ⟨_, _, q', rfl, K, B1, hs, Nat.le_refl _, hq⟩
theorem tick_end {t : Wd} {n : Int} (hen : t.en = true) (hf : t.fa = 0) (h : t.tot <= t.si + n) : t.tick n = { t with si := t.tot, fa := 2 } := by unfold Wd.tick; rw [if_pos ⟨hen, hf⟩, if_pos h]
theorem tick_on {t : Wd} {n : Int} (hen : t.en = true) (hf : t.fa = 0) (h : ¬ t.tot <= t.si + n) : t.tick n = { t with si := t.si + n } := by unfold Wd.tick; rw [if_pos ⟨hen, hf⟩, if_neg h]
theorem ran_end {t : Wd} {n : Int} (hen : t.en = true) (hf : t.fa = 0) (h : t.tot <= t.si + n) : t.ran n = t.tot - t.si := by unfold Wd.ran; rw [if_neg (by simp [hf]), if_pos hen, if_pos h]
theorem ran_on {t : Wd} {n : Int} (hen : t.en = true) (hf : t.fa = 0) (h : ¬ t.tot <= t.si + n) : t.ran n = n := by unfold Wd.ran; rw [if_neg (by simp [hf]), if_pos hen, if_neg h]
theorem dLeft0 (t : Wd) (p : Nat) (w : World) (hen : t.en = true) (hf : t.fa = 0) (s0 : 0 <= t.si) (s1 : t.si <= t.tot) (t1 : t.tot < 4294967296) (a : DAt w p t) :
 Calls Tryz.prog 111 #[.pointer (some ⟨p, 0, none⟩)] w fun e w' => e = .returned (.int .u64 (t.tot - t.si)) /\ Below w.heap.size w w' := by
 have x0 := a.c0
 have x1 := a.c1
 have x2 := a.c2
 have hr := dRuns t w
 rw [decide_eq_true (show t.en = true /\ t.fa = 0 from ⟨hen, hf⟩)] at hr
 have hr := Hd hr
 clear hen hf
 go_enter Tryz.func111, Tryz.ntmps111
 go_wp2_with fail
 refine (hr.out).mono ?_
 rintro e w1 ⟨rfl, hb⟩
 have a1 := a.below hb
 clear hr x0 x1 x2 a
 have x4 := a1.c4
 have x5 := a1.c5
 go_wp2_with fail
 have hg := gcell
 have hl := a1.lt
 refine wp_region_quiet_below (by kernel_rfl) (by kernel_rfl) ?_
 repeat (go_big_quiet_step (fail))
 refine wpQuiet_nil ?_
 intro _ hw'
 obtain ⟨⟨dq, osq⟩, hw''⟩ := hw'
 subst hw''
 go_wp2_with fail
 go_ret
 exact ⟨rfl, trG hb _ _⟩
set_option maxHeartbeats 1600000 in
theorem dTick (t : Wd) (n : Int) (p : Nat) (w : World) (h : t.ok) (a : DAt w p t) (n0 : 0 <= n) (n1 : n < 18446744073709551616) :
 Calls Tryz.prog 124 #[.pointer (some ⟨p, 0, none⟩), .int .u64 n] w fun e w' => e = .returned (.int .u64 (t.ran n)) /\ DAt w' p (t.tick n) /\ Off (· = p) w w' := by
 have F := Hd (fun w a => dFault t p w a)
 have E := Hd (fun w a => dEnabled t p w a)
 by_cases hf : t.fa = 0
 . have qf : (t.fa != 0) = false := by simp [hf]
   obtain ⟨en, hen⟩ : ∃ b, t.en = b := ⟨_, rfl⟩
   rw [hen] at E
   cases en
   . have e1 : t.tick n = t := by unfold Wd.tick; rw [if_neg (by rw [hen]; simp)]
     have e2 : t.ran n = n := by unfold Wd.ran; rw [if_neg (by simp [hf]), if_neg (by rw [hen]; simp)]
     rw [e1, e2]
     go_enter Tryz.func124, Tryz.ntmps124
     go_wp2_with fail
     refine (F.out _ a).mono ?_
     rintro e w' ⟨rfl, rfl⟩
     go_wp2_with fail
     refine (E.out _ a).mono ?_
     rintro e w' ⟨rfl, rfl⟩
     go_wp2_with fail
     go_ret
     exact ⟨rfl, a, Off.refl _ _⟩
   . have hlt := h.run hen hf
     have s0 := h.s0
     have t1 := h.t1
     obtain ⟨R, hR⟩ : ∃ R, t.tick n = R := ⟨_, rfl⟩
     obtain ⟨V, hV⟩ : ∃ V, t.ran n = V := ⟨_, rfl⟩
     rw [hR, hV]
     have HR := Hd hR
     have HV := Hd hV
     have L := Hd (fun w a => dLeft0 t p w hen hf s0 (by omega) t1 a)
     clear hR hV h
     by_cases hge : t.tot <= t.si + n
     . have hv : V = t.tot - t.si := by rw [<- HV.out, ran_end hen hf hge]
       have hr : R = { t with si := t.tot, fa := 2 } := by rw [<- HR.out, tick_end hen hf hge]
       have hm : min n (t.tot - t.si) = t.tot - t.si := by omega
       have hs : t.si + (t.tot - t.si) = t.tot := by omega
       have L2 := Hd (fun w a => by have := dLeft0 { t with si := t.tot } p w hen hf (by show 0 <= t.tot; omega) (Int.le_refl _) t1 a; rw [show t.tot - t.tot = 0 by omega] at this; exact this)
       rw [hv, hr]
       clear hv hr HR HV hen hf
       have hn : n = t.tot - t.si \/ ¬ n <= t.tot - t.si := by omega
       rcases hn with rfl | hn
       all_goals
        go_enter Tryz.func124, Tryz.ntmps124
        go_wp2_with fail
        refine (F.out _ a).mono ?_
        rintro e w' ⟨rfl, rfl⟩
        go_wp2_with fail
        refine (E.out _ a).mono ?_
        rintro e w' ⟨rfl, rfl⟩
        go_wp2_with fail
        refine (L.out _ a).mono ?_
        rintro e w1 ⟨rfl, hb⟩
        have A := a.below hb
        have ho := Off.ofBelow (S := (· = p)) hb
        have x5 := A.c5
        have f5 := A.free 5
        clear a hb L F E
        go_wp2_with fail
        have A1 := A.s5 t.tot
        have ho1 := ho.trans (off_set w1 p 5 (.int .u64 t.tot))
        clear A ho x5 f5
        generalize w1.setCell ⟨p, 5, none⟩ (.int .u64 t.tot) = W1 at *
        refine (L2.out _ A1).mono ?_
        rintro e w2 ⟨rfl, hb⟩
        have A := A1.below hb
        have ho := ho1.trans (Off.ofBelow (S := (· = p)) hb)
        clear A1 hb L2 ho1
        have x2 := A.c2
        have f2 := A.free 2
        go_wp2_with fail
        go_ret
        exact ⟨rfl, A.s2 2, ho.trans (off_set _ _ _ _)⟩
     . have hv : V = n := by rw [<- HV.out, ran_on hen hf hge]
       have hr : R = { t with si := t.si + n } := by rw [<- HR.out, tick_on hen hf hge]
       have hm : min n (t.tot - t.si) = n := by omega
       have L2 := Hd (fun w a => dLeft0 { t with si := t.si + n } p w hen hf (by show 0 <= t.si + n; omega) (by show t.si + n <= t.tot; omega) t1 a)
       have hq : (t.tot - (t.si + n) == 0) = false := by simp; omega
       rw [hv, hr]
       clear hv hr HR HV hen hf
       go_enter Tryz.func124, Tryz.ntmps124
       go_wp2_with fail
       refine (F.out _ a).mono ?_
       rintro e w' ⟨rfl, rfl⟩
       go_wp2_with fail
       refine (E.out _ a).mono ?_
       rintro e w' ⟨rfl, rfl⟩
       go_wp2_with fail
       refine (L.out _ a).mono ?_
       rintro e w1 ⟨rfl, hb⟩
       have A := a.below hb
       have ho := Off.ofBelow (S := (· = p)) hb
       have x5 := A.c5
       have f5 := A.free 5
       clear a hb L F E
       go_wp2_with fail
       have A1 := A.s5 (t.si + n)
       have ho1 := ho.trans (off_set w1 p 5 (.int .u64 (t.si + n)))
       clear A ho x5 f5
       generalize w1.setCell ⟨p, 5, none⟩ (.int .u64 (t.si + n)) = W1 at *
       refine (L2.out _ A1).mono ?_
       rintro e w2 ⟨rfl, hb⟩
       have A := A1.below hb
       have ho := ho1.trans (Off.ofBelow (S := (· = p)) hb)
       clear A1 hb L2 ho1
       have x2 := A.c2
       have f2 := A.free 2
       go_wp2_with fail
       go_ret
       exact ⟨rfl, A, ho⟩
 . have qf : (t.fa != 0) = true := by simp [hf]
   have e1 : t.tick n = t := by unfold Wd.tick; rw [if_neg (fun e => hf e.2)]
   have e2 : t.ran n = 0 := by unfold Wd.ran; rw [if_pos hf]
   rw [e1, e2]
   go_enter Tryz.func124, Tryz.ntmps124
   go_wp2_with fail
   refine (F.out _ a).mono ?_
   rintro e w' ⟨rfl, rfl⟩
   go_wp2_with fail
   go_ret
   exact ⟨rfl, a, Off.refl _ _⟩
theorem iD : (Tryz.prog.info? 117).map (·.size) = some 7 := by kernel_rfl
theorem dl_one (t : Wd) : ∀ x ∈ dl t, x.oneCell' = true := by
 intro x h
 simp only [dl, List.mem_cons, List.not_mem_nil, or_false] at h
 rcases h with rfl | rfl | rfl | rfl | rfl | rfl | rfl <;> rfl
theorem DAt.row {old : Array Value} {w : World} {b : Nat} (h : w.heap[b]? = some (.cells old tD (0, 0))) (t : Wd) : DAt (w.setRow b (dl t).toArray) b t := row_set _ h
section
variable {ops : Array Oper} {rest : List Oper} {o : Oper} {a : Act} {w : World} {Q : Exit -> Act -> World -> Prop}
theorem loadD (hgd : o.guard = none) (x : Operand) (ho : o.op = .load 117 x) {b : Nat} (hx : a.eval x = .pointer (some ⟨b, 0, none⟩)) {t : Wd} (hg : DAt w b t)
 (h : wpList Tryz.prog ops Q rest (a.put o.dst (.agg (dl t).toArray)) w) : wpList Tryz.prog ops Q (o :: rest) a w :=
 wpList_load_part hgd _ x ho b 0 hx _ (dl t) hg Tryz.underlying117 rfl iD (part_all _) h
theorem storeD (hgd : o.guard = none) (x y : Operand) (ho : o.op = .store 117 x y) {b : Nat} (hx : a.eval x = .pointer (some ⟨b, 0, none⟩)) {t : Wd} (hy : a.eval y = .agg (dl t).toArray) {t' : Wd} (hg : DAt w b t')
 (h : wpList Tryz.prog ops Q rest (a.put o.dst undef) (w.setRow b (dl t).toArray)) : wpList Tryz.prog ops Q (o :: rest) a w := by
 refine wpList_store_part hgd _ x y ho b 0 hx (dl t) hy hg iD (by simp [dl]) (dl_one _) ?_
 rw [spliced_all _ _ (by simp [dl])]
 exact h
end
theorem dReset (t : Wd) (p : Nat) (w : World) (a : DAt w p t) :
 Calls Tryz.prog 234 #[.pointer (some ⟨p, 0, none⟩)] w fun e w' => e = .returned (.tuple #[]) /\ DAt w' p wz /\ Off (· = p) w w' := by
 go_enter Tryz.func234, Tryz.ntmps234
 go_wp2_with (refine storeD rfl (.tmp 6) (.tmp 5) rfl rfl (t := wz) rfl a ?_)
 go_end0
 exact ⟨rfl, DAt.row a wz, offW_row _ _ _⟩
theorem dCopy (t : Wd) (p : Nat) (w : World) (a : DAt w p t) :
 Calls Tryz.prog 61 #[.pointer (some ⟨p, 0, none⟩)] w fun e w' => e = .returned (.pointer (some ⟨w.heap.size, 0, none⟩)) /\ DAt w' w.heap.size t /\ Below w.heap.size w w' := by
 have ha := a.lt
 have hb := trA (tr0 w) (.cells (dl wz).toArray tD (0, 0))
 have Y : DAt (w.alloc (.cells (dl wz).toArray tD (0, 0))) w.heap.size wz := blk_new w _
 have Z := DAt.row Y t
 have hB := below_setRow hb (dl t).toArray (g := w.heap.size) (Nat.le_refl _)
 go_enter Tryz.func61, Tryz.ntmps61
 go_wp2_with (first | (refine loadD rfl (.tmp 7) rfl rfl a ?_) | (refine storeD rfl (.tmp 3) (.tmp 8) rfl rfl (t := t) rfl Y ?_))
 go_ret
 exact ⟨rfl, Z, hB⟩
end Go.Proofs.YtcgmnjajodegmaaGreat.B
