/- Package clint: Store, Copy. -/
import Derived.Test.YtfkkimbdjobpmaaClintS
import Derived.Shelf.SlMaps.Clone
namespace Go.Proofs.Ytfkkimbdjobpmaa.B
set_option linter.unusedVariables false
set_option linter.unusedSimpArgs false
open Go.ChangeShapes Go.WideShapes Go.RowKit Go.Sort Go.MapKept
theorem field_bit0 (v : Int) (v0 : 0 ≤ v) : field v 0 1 = v % 2 := by
  unfold field inw
  simp
  omega
/-- The register that was found, in its block. -/
def RegAt (W : World) (x : Nat) (k h : Int) : Prop := W.heap[x]? = some (.cells #[.int .i64 k, .int .i64 h] 64 (0, 0))
theorem RegAt.c0 {W : World} {x : Nat} {k h : Int} (a : RegAt W x k h) : W.cell? ⟨x, 0, none⟩ = some (.int .i64 k) := by have := blk_cell a 0; simpa using this
theorem RegAt.c1 {W : World} {x : Nat} {k h : Int} (a : RegAt W x k h) : W.cell? ⟨x, 1, none⟩ = some (.int .i64 h) := by have := blk_cell a 1; simpa using this
theorem RegAt.lt {W : World} {x : Nat} {k h : Int} (a : RegAt W x k h) : x < W.heap.size := lt_of_block a
theorem cStoreNil (o v : Int) (w : World) :
    Calls Try.prog 14 #[.pointer none, .int .u32 o, .int .u32 v] w fun e w' => e = .returned (.int .i64 10) ∧ Below w.heap.size w w' := by
  go_enter Try.func14, Try.ntmps14
  go_wp2_with fail
  refine (cFindNil _ _).mono ?_
  rintro e w1 ⟨rfl, hb⟩
  go_wp2_with fail
  go_ret
  exact ⟨rfl, trA hb _⟩
theorem cStoreSoft (v t : Int) (h n : Nat) (D S : Nat → Int) (p m : Nat) (w : World) (hc : CAt w p m t n D S) (hn : h < n) (v0 : 0 ≤ v) (v1 : v < 4294967296) :
    Calls Try.prog 14 #[.pointer (some ⟨p, 0, none⟩), .int .u32 (4 * (h : Int)), .int .u32 v] w
      fun e w' => e = .returned (.int .i64 0) ∧ CAt w' p m t n D (upd S h (v % 2)) ∧ Off (· = p) w w' := by
  have n8 := hc.n1
  have hh : h < 8 := by omega
  go_enter Try.func14, Try.ntmps14
  go_wp2_with fail
  refine (cFind (4 * (h : Int)) t 0 h n D S p m _ hc (by omega) (ne4 (by omega)) (lay_soft hn)).mono ?_
  rintro e w1 ⟨rfl, hb⟩
  have H := Lib.hid (hc.below (trA hb (.cells #[.int .i64 0, .int .i64 h] 64)))
  have X := blk_new w1 (.cells #[.int .i64 0, .int .i64 h] 64)
  have HB := Lib.hid (trA hb (.cells #[.int .i64 0, .int .i64 h] 64))
  clear hc hb
  go_upto_region 2 with (fail)
  generalize (w1.alloc (.cells #[.int .i64 0, .int .i64 h] 64)) = W at *
  generalize w1.heap.size = x at *
  have R : RegAt W x 0 h := X
  have x0 := R.c0
  have x1 := R.c1
  have hx := R.lt
  clear X R
  have hp := H.out.ltp
  have cS := H.out.cS h hh
  have fS := H.out.free (10 + h)
  have hg := gcell
  have hf := gfrozen
  go_wp2_with fail
  refine wp_region_tail_below 8 (by kernel_rfl) (by kernel_rfl) ?_
  simp only [List.take_succ_cons, List.take_zero, List.drop_succ_cons, List.drop_zero]
  repeat (go_big_quiet_step (first | (go_at_call 31; exact Calls.regrown_of ((Field v 0 1 _ v0 v1 (by omega) (by omega)).mono fun _ _ g => ⟨g.1, by obtain ⟨_, j, rfl⟩ := g; exact trN (tr0 _) _⟩))))
  refine wpQuiet_nil ?_
  intro _ hw'
  obtain ⟨⟨dq, osq⟩, hw''⟩ := hw'
  subst hw''
  have hb2 := below_regrown W dq osq
  have E := Lib.hid (field_bit0 v v0)
  have H2 := Lib.hid ((H.out.below hb2).setS h (v := v % 2) hh (by omega) (by omega))
  have O2 := Lib.hid (((Off.ofBelow (S := (· = p)) (tr HB.out hb2))).trans (off_set _ p (10 + h) (.int .u32 (v % 2))))
  go_wp2_with fail
  go_ret
  rw [E.out]
  exact ⟨rfl, H2.out, O2.out⟩
theorem cStoreLow (v t : Int) (h n : Nat) (D S : Nat → Int) (p m : Nat) (w : World) (hc : CAt w p m t n D S) (hn : h < n) (v0 : 0 ≤ v) (v1 : v < 4294967296) :
    Calls Try.prog 14 #[.pointer (some ⟨p, 0, none⟩), .int .u32 (16384 + 8 * (h : Int)), .int .u32 v] w
      fun e w' => e = .returned (.int .i64 0) ∧ CAt w' p m t n (upd D h (join (hi (D h)) v)) S ∧ Off (· = p) w w' := by
  have n8 := hc.n1
  have hh : h < 8 := by omega
  go_enter Try.func14, Try.ntmps14
  go_wp2_with fail
  refine (cFind (16384 + 8 * (h : Int)) t 1 h n D S p m _ hc (by omega) (ne4 (by omega)) (lay_low hn)).mono ?_
  rintro e w1 ⟨rfl, hb⟩
  have H := Lib.hid (hc.below (trA hb (.cells #[.int .i64 1, .int .i64 h] 64)))
  have X := blk_new w1 (.cells #[.int .i64 1, .int .i64 h] 64)
  have HB := Lib.hid (trA hb (.cells #[.int .i64 1, .int .i64 h] 64))
  clear hc hb
  go_upto_region 2 with (fail)
  generalize (w1.alloc (.cells #[.int .i64 1, .int .i64 h] 64)) = W at *
  generalize w1.heap.size = x at *
  have R : RegAt W x 1 h := X
  have x0 := R.c0
  have x1 := R.c1
  have hx := R.lt
  clear X R
  have hp := H.out.ltp
  have cD := H.out.cD h hh
  obtain ⟨d0, d1⟩ := H.out.d h
  have fS := H.out.free (2 + h)
  have hg := gcell
  have hf := gfrozen
  go_wp2_with fail
  refine wp_region_tail_below 16 (by kernel_rfl) (by kernel_rfl) ?_
  simp only [List.take_succ_cons, List.take_zero, List.drop_succ_cons, List.drop_zero]
  repeat (go_big_quiet_step (first | (go_at_call 33; exact Calls.regrown_of ((Hi _ _ d0 d1).mono fun _ _ g => ⟨g.1, g.2 ▸ tr0 _⟩)) | (go_at_call 32; exact Calls.regrown_of ((Join _ _ _ (hi_nonneg d0) (hi_lt d1) v0 v1).mono fun _ _ g => ⟨g.1, g.2 ▸ tr0 _⟩))))
  refine wpQuiet_nil ?_
  intro _ hw'
  obtain ⟨⟨dq, osq⟩, hw''⟩ := hw'
  subst hw''
  have hb2 := below_regrown W dq osq
  have vb := join_bounds (hi_nonneg d0) (hi_lt d1) v0 v1
  have H2 := Lib.hid ((H.out.below hb2).setD h (v := join (hi (D h)) v) hh vb.1 vb.2)
  have O2 := Lib.hid (((Off.ofBelow (S := (· = p)) (tr HB.out hb2))).trans (off_set _ p (2 + h) (.int .u64 (join (hi (D h)) v))))
  clear vb
  go_wp2_with fail
  go_ret
  exact ⟨rfl, H2.out, O2.out⟩
theorem cStoreHigh (v t : Int) (h n : Nat) (D S : Nat → Int) (p m : Nat) (w : World) (hc : CAt w p m t n D S) (hn : h < n) (v0 : 0 ≤ v) (v1 : v < 4294967296) :
    Calls Try.prog 14 #[.pointer (some ⟨p, 0, none⟩), .int .u32 (16384 + 8 * (h : Int) + 4), .int .u32 v] w
      fun e w' => e = .returned (.int .i64 0) ∧ CAt w' p m t n (upd D h (join v (lo (D h)))) S ∧ Off (· = p) w w' := by
  have n8 := hc.n1
  have hh : h < 8 := by omega
  go_enter Try.func14, Try.ntmps14
  go_wp2_with fail
  refine (cFind (16384 + 8 * (h : Int) + 4) t 2 h n D S p m _ hc (by omega) (ne4 (by omega)) (lay_high hn)).mono ?_
  rintro e w1 ⟨rfl, hb⟩
  have H := Lib.hid (hc.below (trA hb (.cells #[.int .i64 2, .int .i64 h] 64)))
  have X := blk_new w1 (.cells #[.int .i64 2, .int .i64 h] 64)
  have HB := Lib.hid (trA hb (.cells #[.int .i64 2, .int .i64 h] 64))
  clear hc hb
  go_upto_region 2 with (fail)
  generalize (w1.alloc (.cells #[.int .i64 2, .int .i64 h] 64)) = W at *
  generalize w1.heap.size = x at *
  have R : RegAt W x 2 h := X
  have x0 := R.c0
  have x1 := R.c1
  have hx := R.lt
  clear X R
  have hp := H.out.ltp
  have cD := H.out.cD h hh
  obtain ⟨d0, d1⟩ := H.out.d h
  have fS := H.out.free (2 + h)
  have hg := gcell
  have hf := gfrozen
  go_wp2_with fail
  refine wp_region_tail_below 16 (by kernel_rfl) (by kernel_rfl) ?_
  simp only [List.take_succ_cons, List.take_zero, List.drop_succ_cons, List.drop_zero]
  repeat (go_big_quiet_step (first | (go_at_call 34; exact Calls.regrown_of ((Lo _ _ d0 d1).mono fun _ _ g => ⟨g.1, g.2 ▸ tr0 _⟩)) | (go_at_call 32; exact Calls.regrown_of ((Join _ _ _ v0 v1 (lo_nonneg _) (lo_lt _)).mono fun _ _ g => ⟨g.1, g.2 ▸ tr0 _⟩))))
  refine wpQuiet_nil ?_
  intro _ hw'
  obtain ⟨⟨dq, osq⟩, hw''⟩ := hw'
  subst hw''
  have hb2 := below_regrown W dq osq
  have vb := join_bounds v0 v1 (lo_nonneg (D h)) (lo_lt (D h))
  have H2 := Lib.hid ((H.out.below hb2).setD h (v := join v (lo (D h))) hh vb.1 vb.2)
  have O2 := Lib.hid (((Off.ofBelow (S := (· = p)) (tr HB.out hb2))).trans (off_set _ p (2 + h) (.int .u64 (join v (lo (D h))))))
  clear vb
  go_wp2_with fail
  go_ret
  exact ⟨rfl, H2.out, O2.out⟩
theorem cStoreErr (o v t : Int) (n : Nat) (D S : Nat → Int) (p m : Nat) (w : World) (hc : CAt w p m t n D S) (E : Int) (hE : (E != 0) = true) (hE2 : (E == 0) = false)
    (hf : Calls Try.prog 29 #[.pointer (some ⟨p, 0, none⟩), .int .u32 o] w fun e w' => e = .returned (.tuple #[.agg #[.int .i64 0, .int .i64 0], .int .i64 E]) ∧ Below w.heap.size w w') :
    Calls Try.prog 14 #[.pointer (some ⟨p, 0, none⟩), .int .u32 o, .int .u32 v] w
      fun e w' => e = .returned (.int .i64 E) ∧ CAt w' p m t n D S ∧ Off (· = p) w w' := by
  have HF := Lib.hid hf
  clear hf
  go_enter Try.func14, Try.ntmps14
  go_wp2_with fail
  refine HF.out.mono ?_
  rintro e w1 ⟨rfl, hb⟩
  have H := Lib.hid (hc.below (trA hb (.cells #[.int .i64 0, .int .i64 0] 64)))
  have O := Lib.hid (Off.ofBelow (S := (· = p)) (trA hb (.cells #[.int .i64 0, .int .i64 0] 64)))
  clear hc hb
  go_wp2_with fail
  go_ret
  exact ⟨rfl, H.out, O.out⟩
theorem cStoreTime (o v t : Int) (k n : Nat) (D S : Nat → Int) (p m : Nat) (w : World) (hc : CAt w p m t n D S) (hk : k = 3 ∨ k = 4) (o0 : 0 ≤ o) (o4 : (o % 4 != 0) = false) (hin : (o, regV k (0 : Nat)) ∈ lay n) :
    Calls Try.prog 14 #[.pointer (some ⟨p, 0, none⟩), .int .u32 o, .int .u32 v] w
      fun e w' => e = .returned (.int .i64 12) ∧ CAt w' p m t n D S ∧ Off (· = p) w w' := by
  rcases hk with rfl | rfl
  all_goals
    go_enter Try.func14, Try.ntmps14
    go_wp2_with fail
    refine (cFind o t _ _ n D S p m _ hc o0 o4 hin).mono ?_
    rintro e w1 ⟨rfl, hb⟩
    go_wp2_with fail
    go_ret
    exact ⟨rfl, hc.below (trA hb _), Off.ofBelow (trA hb _)⟩
theorem cStore (o v t : Int) (n : Nat) (D S : Nat → Int) (p m : Nat) (w : World) (hc : CAt w p m t n D S) (o0 : 0 ≤ o) (o1 : o < 4294967296) (v0 : 0 ≤ v) (v1 : v < 4294967296) :
    Calls Try.prog 14 #[.pointer (some ⟨p, 0, none⟩), .int .u32 o, .int .u32 v] w
      fun e w' => e = .returned (.int .i64 (cErrS n o)) ∧ CAt w' p m t n (cPutD n D o v) (cPutS n S o v) ∧ Off (· = p) w w' := by
  have n8 := hc.n1
  rcases at_all n o with h | h | h | ⟨h, hn, e⟩ | ⟨h, hn, e⟩ | ⟨h, hn, e⟩ | ⟨h4, h1, h2, h⟩
  · have he : cErrS n o = 11 := by rw [err_errS (by rw [odd_err h]; omega), odd_err h]
    rw [he, err_putD (by rw [he]; omega), err_putS (by rw [he]; omega)]
    exact cStoreErr o v t n D S p m w hc 11 rfl rfl (cFindBad o p w o0 (by simpa using h))
  · subst h; rw [lo_errS, err_putD (by rw [lo_errS]; omega), err_putS (by rw [lo_errS]; omega)]; exact cStoreTime _ v t 3 n D S p m w hc (.inl rfl) o0 (by decide) (lay_lo n)
  · subst h; rw [hi_errS, err_putD (by rw [hi_errS]; omega), err_putS (by rw [hi_errS]; omega)]; exact cStoreTime _ v t 4 n D S p m w hc (.inr rfl) o0 (by decide) (lay_hi n)
  · subst e; rw [soft_errS hn n8, soft_putD hn n8, soft_putS hn n8]; exact cStoreSoft v t h n D S p m w hc hn v0 v1
  · subst e; rw [low_errS hn n8, low_putD hn n8, low_putS hn]; exact cStoreLow v t h n D S p m w hc hn v0 v1
  · subst e; rw [high_errS hn n8, high_putD hn n8, high_putS hn]; exact cStoreHigh v t h n D S p m w hc hn v0 v1
  · have hr := none_err (n := n) o0 h4 h1 h2 h
    have he : cErrS n o = 10 := by rw [err_errS (by rw [hr]; omega), hr]
    rw [he, err_putD (by rw [he]; omega), err_putS (by rw [he]; omega)]
    exact cStoreErr o v t n D S p m w hc 10 rfl rfl (cFindNone o t n D S p m w hc o0 o1 (by simpa using h4) (lay_none n o h1 h2 h))
/-! Copy -/
theorem cClone (m n : Nat) (w : World) (hm : mapP w ek ok32 m (lay n)) :
    Calls Try.prog 35 #[.map (some m)] w
      fun e w' => e = .returned (.map (some w.heap.size)) ∧ mapP w' ek ok32 w.heap.size (lay n) ∧ Below w.heap.size w w' := by
  obtain ⟨es, c, hb, h1, h2, h3⟩ := hm
  have hq := fun w => run_eql_map_nil_sl (P := Try.prog) w 56 _ _ (some m) Try.underlying56
  have HK := Lib.hid (show mapP (w.alloc (.map es c)) ek ok32 w.heap.size (lay n) from ⟨es, c, blk_new w _, h1, h2, h3⟩)
  clear h1 h2 h3
  go_enter Try.func35, Try.ntmps35
  go_wp2
  rw [run_callFunc_extern Try.func44 (by kernel_rfl) (by kernel_rfl) (by kernel_rfl) (e := Extern.MapsClone.clone) (by kernel_rfl), run_maps_clone_sl w 56 hb]
  simp only [Result.andThen]
  rw [Oper.upon_value]
  go_wp2
  rw [run_typeAssert_map_sl _ 56 20 _ _ _ Try.underlying56]
  simp only [Result.andThen]
  rw [Oper.upon_value]
  go_wp2
  go_ret
  exact ⟨rfl, HK.out, trA (tr0 w) _⟩
end Go.Proofs.Ytfkkimbdjobpmaa.B
