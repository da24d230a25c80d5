/- Several texts in one: Package pool: Get, Place, Set, Drop. Package pool: Put, Handles, Clear. Package pool: on nil. -/
import Derived.Test.YtggmllobcemhhaaZAaf
import Derived.Test.YtggmllobcemhhaaZAal
namespace Go.Proofs.Ytggmllobcemhhaa.B
set_option linter.unusedVariables false
set_option linter.unusedSimpArgs false
set_option maxRecDepth 100000
open Go.ChangeShapes Go.WideShapes Go.RowKit Go.Sort Go.MapKept
theorem fnd_spec {n : Nat} {t : Nat → Po} {x : Int} {i : Nat} (h : fnd n t x = some i) (x0 : 0 ≤ x) : i < n ∧ (t i).tk = true ∧ x % 4096 = i := by
 unfold fnd at h
 split at h
 · rename_i hc
   obtain rfl := Option.some.inj h
   exact ⟨hc.1, hc.2.1, by omega⟩
 · cases h
theorem PlB.as {w : World} {p m g gc f fc n : Nat} {M M' : List (Int × Value)} {G G' F : Nat → Int} (h : PlB w p m g gc f fc n M G F) (hM : M.Perm M') (hG : ∀ i, i < n → G i = G' i) : PlB w p m g gc f fc n M' G' F :=
 ⟨h.cell, h.map.perm hM, h.gens.congr hG, h.free, h.pm, h.pg, h.pf, h.mg, h.mf, h.gf⟩
theorem setT_some {n : Nat} {t : Nat → Po} {x d q o : Int} {i : Nat} (h : fnd n t x = some i) : setT n t x d q o = pupd t i ((t i).put d q o) := by unfold setT; rw [h]
theorem setT_none {n : Nat} {t : Nat → Po} {x d q o : Int} (h : fnd n t x = none) : setT n t x d q o = t := by unfold setT; rw [h]
theorem dropT_some {n : Nat} {t : Nat → Po} {x : Int} {i : Nat} (h : fnd n t x = some i) : dropT n t x = pupd t i (t i).gone := by unfold dropT; rw [h]
theorem dropT_none {n : Nat} {t : Nat → Po} {x : Int} (h : fnd n t x = none) : dropT n t x = t := by unfold dropT; rw [h]
def oSp (a : Int) : Obj := .cells #[.int .i64 a] tSp (0, 0)
section
variable {w : World} {p m g gc f fc n : Nat} {t : Nat → Po} {F : Nat → Int}
theorem pGet (V : VAt w p m g gc f fc n t F) (x : Int) (hx : u64r x) : Calls Try.prog 18 #[.pointer (some ⟨p, 0, none⟩), .int .u64 x] w
 fun e w' => e = .returned (match fnd n t x with | some i => .tuple #[.agg (e3 (t i).d (t i).p (t i).o).toArray, .bool true] | none => .tuple #[.agg (e3 0 0 0).toArray, .bool false]) ∧ Below w.heap.size w w' := by
 have HB0 := Lib.hid (trA (tr0 w) (.cells #[.int .u64 0, .int .u64 0, .int .u64 0] tEn))
 have HX := Lib.hid (blk_new w (.cells #[.int .u64 0, .int .u64 0, .int .u64 0] tEn))
 have HV := Lib.hid (V.below HB0.out)
 have HF := Lib.hid (pFind HV.out x hx)
 have x0 := hx.1
 cases hfn : fnd n t x with
 | none =>
   rw [hfn] at HF
   clear V hx hfn HV
   go_enter Try.func18, Try.ntmps18
   go_wp2_with fail
   refine HF.out.mono ?_
   rintro e w1 ⟨rfl, hb1⟩
   have hb2 := trA hb1 (oSp (x % 4096))
   have HB2 := Lib.hid (tr HB0.out hb2)
   have hX2 := blk_below hb2 HX.out (by simp)
   have X := Lib.hid hX2
   clear hb1 hb2 HF HB0 HX hX2
   go_upto_region 2 with (fail)
   rw [show Obj.cells #[Value.int .i64 (x % 4096)] tSp (0, 0) = oSp (x % 4096) from rfl]
   generalize w1.alloc (oSp (x % 4096)) = W at *
   have hX2 := X.out
   have hc0 := blk_free hX2 0
   have hc1 := blk_free hX2 1
   have hc2 := blk_free hX2 2
   have hl := lt_of_block hX2
   have d0 := blk_cell hX2 0
   have d1 := blk_cell hX2 1
   have d2 := blk_cell hX2 2
   simp only [List.getElem?_toArray, List.getElem?_cons_zero, List.getElem?_cons_succ] at d0 d1 d2
   clear hX2
   go_wp2_with fail
   have h1 := blk_set (blk_set (blk_set X.out 0 (.int .u64 0)) 1 (.int .u64 0)) 2 (.int .u64 0)
   refine bodyPost_ret (v := .tuple #[.agg (e3 0 0 0).toArray, .bool false]) ?_ rfl ⟨rfl, ((HB2.out.setCell (p := ⟨w.heap.size, 0, none⟩) (Nat.le_refl _) _).setCell (p := ⟨w.heap.size, 1, none⟩) (Nat.le_refl _) _).setCell (p := ⟨w.heap.size, 2, none⟩) (Nat.le_refl _) _⟩
   exact results_cell_slot rfl _ _ w.heap.size 0 _ (e3 0 0 0) _ rfl rfl h1 Try.underlying33 rfl iEn (part_all _)
 | some i =>
   obtain ⟨hi, ht, hxi⟩ := fnd_spec hfn x0
   rw [hfn] at HF
   rw [hxi] at HF
   have hin := Lib.hid (show ((i : Int), Value.agg #[.int .u64 (t i).d, .int .u64 (t i).p, .int .u64 (t i).o]) ∈ entM t n from mem_entM t n i hi ht)
   clear hx hfn ht hxi V
   go_enter Try.func18, Try.ntmps18
   go_wp2_with fail
   refine HF.out.mono ?_
   rintro e w1 ⟨rfl, hb1⟩
   have hb2 := trA hb1 (oSp i)
   have HB2 := Lib.hid (tr HB0.out hb2)
   have HV2 := Lib.hid (HV.out.below hb2)
   have X := Lib.hid (blk_below hb2 HX.out (by simp))
   have Y := Lib.hid (blk_new w1 (oSp i))
   have hne : w.heap.size < w1.heap.size := by have := hb1.size; simp at this; omega
   clear hb1 hb2 HF HB0 HX HV
   go_upto_region 2 with (fail)
   rw [show Obj.cells #[Value.int .i64 (i : Int)] tSp (0, 0) = oSp i from rfl]
   generalize w1.alloc (oSp i) = W at *
   generalize w1.heap.size = y at *
   have hgc := gcell
   have hgf := gfrozen
   have hp := HV2.out.A.B.ltp
   have c0 := HV2.out.A.B.c0
   have y0 : W.cell? ⟨y, 0, none⟩ = some (.int .i64 i) := by rw [blk_cell Y.out]; rfl
   have hy := lt_of_block Y.out
   go_upto_region 4 with (fail)
   refine wp_region_tail_below 6 (by kernel_rfl) (by kernel_rfl) ?_
   simp only [List.take_succ_cons, List.take_zero, List.drop_succ_cons, List.drop_zero]
   repeat (first
    | go_big_quiet_skip
    | (go_big_quiet_want; first
     | (refine quiet_hit spotKey (.tmp 20) (.tmp 21) _ rfl Try.underlying66 rfl (fun w' hw' => HV2.out.A.B.map.below (by obtain ⟨q, rfl⟩ := hw'; exact below_regrown W q.d q.os) HV2.out.A.B.map.lt) (i : Int) _ rfl hin.out ?_; go_simp; go_big_quiet_on)
     | (go_big_quiet_op; go_big_quiet_on))
    | (refine wpQuiet_nil ?_))
   intro _ hw'
   obtain ⟨⟨dq, osq⟩, hw''⟩ := hw'
   subst hw''
   have hb := below_regrown W dq osq
   have X3 := Lib.hid (blk_below hb X.out (lt_of_block X.out))
   have HB3 := Lib.hid (tr HB2.out hb)
   clear hb hgc hgf
   dsimp only at X3 HB3 ⊢
   generalize grow (redrawn W dq) osq = W3 at *
   have hX2 := X3.out
   have hc0 := blk_free hX2 0
   have hc1 := blk_free hX2 1
   have hc2 := blk_free hX2 2
   have hl := lt_of_block hX2
   have d0 := blk_cell hX2 0
   have d1 := blk_cell hX2 1
   have d2 := blk_cell hX2 2
   simp only [List.getElem?_toArray, List.getElem?_cons_zero, List.getElem?_cons_succ] at d0 d1 d2
   clear hX2
   go_wp2_with fail
   have h1 := blk_set (blk_set (blk_set X3.out 0 (.int .u64 (t i).d)) 1 (.int .u64 (t i).p)) 2 (.int .u64 (t i).o)
   refine bodyPost_ret (v := .tuple #[.agg (e3 (t i).d (t i).p (t i).o).toArray, .bool true]) ?_ rfl ⟨rfl, ((HB3.out.setCell (p := ⟨w.heap.size, 0, none⟩) (Nat.le_refl _) _).setCell (p := ⟨w.heap.size, 1, none⟩) (Nat.le_refl _) _).setCell (p := ⟨w.heap.size, 2, none⟩) (Nat.le_refl _) _⟩
   exact results_cell_slot rfl _ _ w.heap.size 0 _ (e3 (t i).d (t i).p (t i).o) _ rfl rfl h1 Try.underlying33 rfl iEn (part_all _)
theorem pPlace (V : VAt w p m g gc f fc n t F) (x : Int) (hx : u64r x) : Calls Try.prog 19 #[.pointer (some ⟨p, 0, none⟩), .int .u64 x] w
 fun e w' => e = .returned (.int .i64 (fndI n t x)) ∧ Below w.heap.size w w' := by
 have HF := Lib.hid (pFind V x hx)
 have x0 := hx.1
 unfold fndI
 cases hfn : fnd n t x with
 | none =>
   rw [hfn] at HF
   clear V hx hfn
   go_enter Try.func19, Try.ntmps19
   go_wp2_with fail
   refine HF.out.mono ?_
   rintro e w1 ⟨rfl, hb1⟩
   clear HF
   go_wp2_with fail
   go_ret
   exact ⟨rfl, trA hb1 _⟩
 | some i =>
   obtain ⟨hi, ht, hxi⟩ := fnd_spec hfn x0
   rw [hfn, hxi] at HF
   clear hx hfn ht hxi V
   go_enter Try.func19, Try.ntmps19
   go_wp2_with fail
   refine HF.out.mono ?_
   rintro e w1 ⟨rfl, hb1⟩
   clear HF
   go_wp2_with fail
   go_ret
   exact ⟨rfl, trA hb1 _⟩
theorem VAt.put (V : VAt w p m g gc f fc n t F) {w' : World} {i : Nat} (hi : i < n) {c : Po} (hc : c.tk = true) (hg : c.g = (t i).g) (ht : (t i).tk = true) (h : PlB w' p m g gc f fc n (putM (i : Int) (enV c) (entM t n)) (fun i => (t i).g) F) : PlAt w' p m g gc f fc n (pupd t i c) F :=
 ⟨h.as (entM_put hc n hi) (fun j hj => by
  by_cases e : j = i
  · subst e; rw [pupd_at, hg]
  · rw [pupd_ne t c e]), V.A.fw.congr fun j hj => by
  by_cases e : j = i
  · subst e; rw [pupd_at, hc, ht]
  · rw [pupd_ne t c e]⟩
theorem pSet (V : VAt w p m g gc f fc n t F) (x d q o : Int) (hx : u64r x) : Calls Try.prog 17 #[.pointer (some ⟨p, 0, none⟩), .int .u64 x, .agg (e3 d q o).toArray] w
 fun e w' => e = .returned (.bool (fnd n t x).isSome) ∧ PlAt w' p m g gc f fc n (setT n t x d q o) F ∧ Off (own4 p m g f) w w' := by
 have HB0 := Lib.hid (trA (tr0 w) (.cells #[.int .u64 d, .int .u64 q, .int .u64 o] tEn))
 have HX := Lib.hid (blk_new w (.cells #[.int .u64 d, .int .u64 q, .int .u64 o] tEn))
 have HV := Lib.hid (V.below HB0.out)
 have HF := Lib.hid (pFind HV.out x hx)
 have x0 := hx.1
 show Calls Try.prog 17 #[.pointer (some ⟨p, 0, none⟩), .int .u64 x, .agg #[.int .u64 d, .int .u64 q, .int .u64 o]] w _
 cases hfn : fnd n t x with
 | none =>
   rw [setT_none hfn]
   rw [hfn] at HF
   have HW := Lib.hid V
   clear V hx hfn HV
   go_enter Try.func17, Try.ntmps17
   go_wp2_with fail
   refine HF.out.mono ?_
   rintro e w1 ⟨rfl, hb1⟩
   have HB2 := Lib.hid (tr HB0.out (trA hb1 (oSp (x % 4096))))
   clear hb1 HF HX HB0
   go_wp2_with fail
   go_ret
   exact ⟨rfl, HW.out.A.below HB2.out, Off.ofBelow HB2.out⟩
 | some i =>
   obtain ⟨hi, ht, hxi⟩ := fnd_spec hfn x0
   rw [setT_some hfn]
   rw [hfn, hxi] at HF
   clear hx hfn hxi V
   have HT := Lib.hid ht
   clear ht
   go_enter Try.func17, Try.ntmps17
   go_wp2_with fail
   refine HF.out.mono ?_
   rintro e w1 ⟨rfl, hb1⟩
   have hb2 := trA hb1 (oSp i)
   have HB2 := Lib.hid (tr HB0.out hb2)
   have HV2 := Lib.hid (HV.out.below hb2)
   have X := Lib.hid (blk_below hb2 HX.out (by simp))
   have Y := Lib.hid (blk_new w1 (oSp i))
   clear hb1 hb2 HF HB0 HX HV
   go_upto_region 2 with (fail)
   rw [show Obj.cells #[Value.int .i64 (i : Int)] tSp (0, 0) = oSp i from rfl]
   generalize w1.alloc (oSp i) = W at *
   generalize w1.heap.size = y at *
   have hgc := gcell
   have hgf := gfrozen
   have hp := HV2.out.A.B.ltp
   have c0 := HV2.out.A.B.c0
   have y0 : W.cell? ⟨y, 0, none⟩ = some (.int .i64 i) := by rw [blk_cell Y.out]; rfl
   have hy := lt_of_block Y.out
   have d0 : W.cell? ⟨w.heap.size, 0, none⟩ = some (.int .u64 d) := by rw [blk_cell X.out]; rfl
   have d1 : W.cell? ⟨w.heap.size, 1, none⟩ = some (.int .u64 q) := by rw [blk_cell X.out]; rfl
   have d2 : W.cell? ⟨w.heap.size, 2, none⟩ = some (.int .u64 o) := by rw [blk_cell X.out]; rfl
   have hl := lt_of_block X.out
   go_upto_region 3 with (fail)
   refine wp_region_tail_below 6 (by kernel_rfl) (by kernel_rfl) ?_
   simp only [List.take_succ_cons, List.take_zero, List.drop_succ_cons, List.drop_zero]
   repeat (first | go_big_quiet_step (fail) | (refine wpQuiet_nil ?_))
   intro _ hw'
   obtain ⟨⟨dq, osq⟩, hw''⟩ := hw'
   subst hw''
   have hb := below_regrown W dq osq
   have HV3 := Lib.hid (HV2.out.below hb)
   have HB3 := Lib.hid (tr HB2.out hb)
   clear hb hgc hgf X Y c0 y0 d0 d1 d2 hl hy hp
   dsimp only at HV3 HB3 ⊢
   generalize grow (redrawn W dq) osq = W3 at *
   go_wp2_with (at_mapUpdate; refine wpList_put spotKey rfl _ _ _ _ rfl Try.underlying66 rfl HV3.out.A.B.map (i : Int) (enV ((t i).put d q o)) rfl rfl ⟨by omega, by have := HV3.out.n1; omega⟩ ?_; intro w4 hm4 ho4; have H4 := Lib.hid (HV3.out.put (c := (t i).put d q o) hi rfl rfl HT.out (HV3.out.A.B.mapTo hm4 ho4)); have O4 := Lib.hid ((Off.ofBelow HB3.out).trans (ho4.mono (T := own4 p m g f) (fun k hk e => .inr (.inl e)))); clear hm4 ho4 HV3 HB3)
   go_ret
   exact ⟨rfl, H4.out, O4.out⟩
theorem pDrop (V : VAt w p m g gc f fc n t F) (x : Int) (hx : u64r x) : Calls Try.prog 15 #[.pointer (some ⟨p, 0, none⟩), .int .u64 x] w
 fun e w' => e = .returned (.bool (fnd n t x).isSome) ∧ (∃ F', PlAt w' p m g gc f fc n (dropT n t x) F') ∧ Off (own4 p m g f) w w' := by
 have HF := Lib.hid (pFind V x hx)
 have HV := Lib.hid V
 have x0 := hx.1
 cases hfn : fnd n t x with
 | none =>
   rw [dropT_none hfn]
   rw [hfn] at HF
   clear V hx hfn
   go_enter Try.func15, Try.ntmps15
   go_wp2_with fail
   refine HF.out.mono ?_
   rintro e w1 ⟨rfl, hb1⟩
   have HB2 := Lib.hid (trA hb1 (oSp (x % 4096)))
   clear hb1 HF
   go_wp2_with fail
   go_ret
   exact ⟨rfl, ⟨_, HV.out.A.below HB2.out⟩, Off.ofBelow HB2.out⟩
 | some i =>
   obtain ⟨hi, ht, hxi⟩ := fnd_spec hfn x0
   rw [dropT_some hfn]
   rw [hfn, hxi] at HF
   clear hx hfn hxi V
   have HT := Lib.hid ht
   clear ht
   go_enter Try.func15, Try.ntmps15
   go_wp2_with fail
   refine HF.out.mono ?_
   rintro e w1 ⟨rfl, hb1⟩
   have HB2 := Lib.hid (trA hb1 (oSp i))
   have HV2 := Lib.hid (HV.out.below HB2.out)
   have Y := Lib.hid (blk_new w1 (oSp i))
   have hyn := Lib.hid (fun k (hk : own4 p m g f k) => Nat.ne_of_lt (Nat.lt_of_lt_of_le (HV.out.A.B.lt k hk) hb1.size))
   clear hb1 HF HV
   go_upto_region 2 with (fail)
   rw [show Obj.cells #[Value.int .i64 (i : Int)] tSp (0, 0) = oSp i from rfl]
   generalize w1.alloc (oSp i) = W at *
   generalize w1.heap.size = y at *
   have hgc := gcell
   have hgf := gfrozen
   have hp := HV2.out.A.B.ltp
   have c0 := HV2.out.A.B.c0
   have y0 : W.cell? ⟨y, 0, none⟩ = some (.int .i64 i) := by rw [blk_cell Y.out]; rfl
   have hy := lt_of_block Y.out
   go_upto_region 3 with (fail)
   refine wp_region_tail_below 5 (by kernel_rfl) (by kernel_rfl) ?_
   simp only [List.take_succ_cons, List.take_zero, List.drop_succ_cons, List.drop_zero]
   repeat (first | go_big_quiet_step (fail) | (refine wpQuiet_nil ?_))
   intro _ hw'
   obtain ⟨⟨dq, osq⟩, hw''⟩ := hw'
   subst hw''
   have hb := below_regrown W dq osq
   have HV3 := Lib.hid (HV2.out.below hb)
   have HB3 := Lib.hid (tr HB2.out hb)
   have Y3 := Lib.hid (blk_below hb Y.out (lt_of_block Y.out))
   clear hb Y HV2 HB2 y0 c0 hp hy
   dsimp only at HV3 HB3 Y3 ⊢
   generalize grow (redrawn W dq) osq = W3 at *
   go_upto_region 4 with (at_delete; refine wpList_del spotKey rfl _ _ _ rfl Try.underlying66 rfl HV3.out.A.B.map (i : Int) rfl ⟨by omega, by have := HV3.out.n1; omega⟩ ?_; intro w4 hm4 ho4; rw [entM_del (c := (t i).gone) rfl n hi] at hm4; have H4 := Lib.hid (HV3.out.A.B.mapTo hm4 ho4); have O4 := Lib.hid ((Off.ofBelow HB3.out).trans (ho4.mono (T := own4 p m g f) (fun k hk e => .inr (.inl e)))); have Y4 := Lib.hid (ho4.at Y3.out (fun e => hyn.out m (.inr (.inl rfl)) e.symm)); clear hm4 ho4 HB3)
   have cg := H4.out.gens.cell hi
   have c1 := H4.out.c1
   have hp := H4.out.ltp
   have hg := H4.out.gens.lt
   have hy := lt_of_block Y4.out
   have y0 : w4.cell? ⟨y, 0, none⟩ = some (.int .i64 i) := by rw [blk_cell Y4.out]; rfl
   obtain ⟨l0, l1⟩ := H4.out.gens.le
   unfold maxLen at l1
   have g0 := (HV3.out.ok i hi).g0
   have g1 : (t i).g ≤ 1099511627700 := (HV3.out.ok i hi).g1
   have fr := H4.out.gens.free i
   simp only [Act.put]
   refine wp_region_tail_below 10 (by kernel_rfl) (by kernel_rfl) ?_
   simp only [List.take_succ_cons, List.take_zero, List.drop_succ_cons, List.drop_zero]
   repeat (first | go_big_quiet_step (fail) | (refine wpQuiet_nil ?_))
   intro _ hw'
   obtain ⟨⟨dq, osq⟩, hw''⟩ := hw'
   subst hw''
   have hb := below_regrown w4 dq osq
   have H5 := Lib.hid ((H4.out.below hb).setG hi ((t i).g + 1))
   have O5 := Lib.hid ((O4.out.trans (Off.ofBelow hb)).trans ((off_set _ g i (.int .u64 ((t i).g + 1))).mono (T := own4 p m g f) (fun k hk e => .inr (.inr (.inl e)))))
   have Y5 := Lib.hid (blk_else (blk_below hb Y4.out hy) g i (.int .u64 ((t i).g + 1)) (fun e => hyn.out g (.inr (.inr (.inl rfl))) e.symm))
   clear hb c1 hp hy y0 l0 l1 g0 g1 H4 O4 Y4 Y3
   dsimp only at H5 O5 Y5 ⊢
   go_upto_region 5 with (fail)
   clear hgc hgf cg hg fr
   generalize World.setCell (grow (redrawn w4 dq) osq) ⟨g, i, none⟩ (.int .u64 ((t i).g + 1)) = W5 at *
   have y0 : W5.cell? ⟨y, 0, none⟩ = some (.int .i64 i) := by rw [blk_cell Y5.out]; rfl
   have hy := lt_of_block Y5.out
   go_wp2_with fail
   refine (pTurn H5.out HV3.out.A.fw.b hi HV3.out.n1).mono ?_
   rintro e w6 ⟨rfl, h6, o6⟩
   have H6 := Lib.hid (show PlAt w6 p m g gc f fc n (pupd t i (t i).gone) _ from ⟨h6.as (List.Perm.refl _) (fun j hj => by
    by_cases e : j = i
    · subst e; rw [upd_at, pupd_at]; rfl
    · rw [upd_ne _ _ e, pupd_ne t _ e]), HV3.out.A.fw.turn hi (c := (t i).gone) (by rw [HT.out]; rfl)⟩)
   have O6 := Lib.hid (O5.out.trans (o6.mono (T := own4 p m g f) (fun k hk e => .inr (.inr (.inr e)))))
   clear h6 o6 H5 O5 Y5 y0 hy
   go_wp2_with fail
   go_ret
   exact ⟨rfl, ⟨_, H6.out⟩, O6.out⟩
end
section
variable {w : World} {p m g gc f fc n : Nat} {t : Nat → Po} {F : Nat → Int}
theorem pPut (V : VAt w p m g gc f fc n t F) (d q o : Int) (hd3 : u64r d) (hq3 : u64r q) (ho3 : u64r o) {i : Nat} (hi : i < n) (ht : (t i).tk = false) (hl : ∀ j, j < i → (t j).tk = true) : Calls Try.prog 13 #[.pointer (some ⟨p, 0, none⟩), .agg (e3 d q o).toArray] w
 fun e w' => e = .returned (.tuple #[.int .u64 (hd (t i) i), .int .i64 0]) ∧ (∃ F', PlAt w' p m g gc f fc n (pupd t i ((t i).put d q o)) F') ∧ Off (own4 p m g f) w w' := by
 have HB0 := Lib.hid (trA (tr0 w) (.cells #[.int .u64 d, .int .u64 q, .int .u64 o] tEn))
 have HX := Lib.hid (blk_new w (.cells #[.int .u64 d, .int .u64 q, .int .u64 o] tEn))
 have HV := Lib.hid (V.below HB0.out)
 have HL := Lib.hid (pLeast HV.out hi ht hl)
 have HT := Lib.hid ht
 have HOK := Lib.hid (put_ok V.ok i hd3 hq3 ho3)
 show Calls Try.prog 13 #[.pointer (some ⟨p, 0, none⟩), .agg #[.int .u64 d, .int .u64 q, .int .u64 o]] w _
 have n1 := V.n1
 have hne : ((i : Int) == -1) = false := beq_eq_false_iff_ne.2 (by omega)
 clear hl V ht hd3 hq3 ho3
 go_enter Try.func13, Try.ntmps13
 go_wp2_with fail
 refine HL.out.mono ?_
 rintro e w1 ⟨rfl, hb1⟩
 have HB2 := Lib.hid (tr HB0.out hb1)
 have HV2 := Lib.hid (HV.out.below hb1)
 have X := Lib.hid (blk_below hb1 HX.out (by simp))
 clear hb1 HL HB0 HX HV
 have hgc := gcell
 have hgf := gfrozen
 have hp := HV2.out.A.B.ltp
 have c0 := HV2.out.A.B.c0
 have d0 : w1.cell? ⟨w.heap.size, 0, none⟩ = some (.int .u64 d) := by rw [blk_cell X.out]; rfl
 have d1 : w1.cell? ⟨w.heap.size, 1, none⟩ = some (.int .u64 q) := by rw [blk_cell X.out]; rfl
 have d2 : w1.cell? ⟨w.heap.size, 2, none⟩ = some (.int .u64 o) := by rw [blk_cell X.out]; rfl
 have hl := lt_of_block X.out
 go_upto_region 6 with (fail)
 refine wp_region_tail_below 7 (by kernel_rfl) (by kernel_rfl) ?_
 simp only [List.take_succ_cons, List.take_zero, List.drop_succ_cons, List.drop_zero]
 repeat (first | go_big_quiet_step (fail) | (refine wpQuiet_nil ?_))
 intro _ hw'
 obtain ⟨⟨dq, osq⟩, hw''⟩ := hw'
 subst hw''
 have hb := below_regrown w1 dq osq
 have HV3 := Lib.hid (HV2.out.below hb)
 have HB3 := Lib.hid (tr HB2.out hb)
 clear hb hgc hgf X c0 d0 d1 d2 hl hp HV2 HB2
 dsimp only at HV3 HB3 ⊢
 generalize grow (redrawn w1 dq) osq = W3 at *
 go_wp2_with (at_mapUpdate; refine wpList_put spotKey rfl _ _ _ _ rfl Try.underlying66 rfl HV3.out.A.B.map (i : Int) (enV ((t i).put d q o)) rfl rfl ⟨by omega, by omega⟩ ?_; intro w4 hm4 ho4; have H4 := Lib.hid ((HV3.out.A.B.mapTo hm4 ho4).as (entM_put (c := (t i).put d q o) rfl n hi) (fun _ _ => rfl)); have O4 := Lib.hid ((Off.ofBelow HB3.out).trans (ho4.mono (T := own4 p m g f) (fun k hk e => .inr (.inl e)))); clear hm4 ho4 HB3)
 refine (pTurn H4.out HV3.out.A.fw.b hi n1).mono ?_
 rintro e w6 ⟨rfl, h6, o6⟩
 have H6 := Lib.hid (show VAt w6 p m g gc f fc n (pupd t i ((t i).put d q o)) _ from ⟨⟨h6.as (List.Perm.refl _) (fun j hj => by
  by_cases e : j = i
  · subst e; rw [pupd_at]; rfl
  · rw [pupd_ne t _ e]), HV3.out.A.fw.turn hi (c := (t i).put d q o) (by rw [HT.out]; rfl)⟩, HV3.out.n0, n1, HOK.out⟩)
 have O6 := Lib.hid (O4.out.trans (o6.mono (T := own4 p m g f) (fun k hk e => .inr (.inr (.inr e)))))
 clear h6 o6 H4 O4
 go_wp2_with fail
 refine (pHandle H6.out (i : Int) ⟨by omega, by omega⟩).mono ?_
 rintro e w7 ⟨rfl, hb7⟩
 have e7 : hdlI n (pupd t i ((t i).put d q o)) (i : Int) = hd (t i) i := by
  unfold hdlI
  rw [Int.toNat_natCast, pupd_at, if_pos ⟨by omega, by omega, rfl⟩]
  rfl
 rw [e7]
 have H7 := Lib.hid (H6.out.A.below hb7)
 have O7 := Lib.hid (O6.out.trans (Off.ofBelow hb7))
 clear hb7 H6 O6 e7
 go_wp2_with fail
 go_ret2
 exact ⟨rfl, ⟨_, H7.out⟩, O7.out⟩
theorem pPutNo (V : VAt w p m g gc f fc n t F) (d q o : Int) (hl : ∀ j, j < n → (t j).tk = true) : Calls Try.prog 13 #[.pointer (some ⟨p, 0, none⟩), .agg (e3 d q o).toArray] w
 fun e w' => e = .returned (.tuple #[.int .u64 0, .int .i64 8]) ∧ Below w.heap.size w w' := by
 have HB0 := Lib.hid (trA (tr0 w) (.cells #[.int .u64 d, .int .u64 q, .int .u64 o] tEn))
 have HL := Lib.hid (pLeastNo (V.below HB0.out) hl)
 show Calls Try.prog 13 #[.pointer (some ⟨p, 0, none⟩), .agg #[.int .u64 d, .int .u64 q, .int .u64 o]] w _
 clear hl V
 go_enter Try.func13, Try.ntmps13
 go_wp2_with fail
 refine HL.out.mono ?_
 rintro e w1 ⟨rfl, hb1⟩
 have HB2 := Lib.hid (tr HB0.out hb1)
 clear hb1 HL HB0
 go_wp2_with fail
 go_ret2
 exact ⟨rfl, HB2.out⟩
set_option maxHeartbeats 3200000 in
theorem pHandles (V : VAt w p m g gc f fc n t F) : Calls Try.prog 28 #[.pointer (some ⟨p, 0, none⟩)] w fun e w' => ∃ v, e = .returned v ∧ UvAt w' w.heap.size v (hdsB t n) ∧ Below w.heap.size w w' := by
 have n1 := V.n1
 have HV := Lib.hid V
 have HR := Lib.hid (pRoom V)
 clear V
 go_enter Try.func28, Try.ntmps28
 go_wp2_with (go_at_call 29; refine HR.out.mono ?_; rintro e w1 ⟨rfl, rfl⟩)
 go_loopw [3, 8] (fun v i wr => ∃ (k : Nat) (V : Value), k ≤ n ∧ i = .int .i64 k ∧ v = V ∧ Hid (UvAt wr w.heap.size V (hdsB t k) ∧ Below w.heap.size w wr)) (fun v i wr => n - (intOf i).toNat)
 case atStart => exact ⟨0, _, by omega, rfl, rfl, Lib.hid ⟨uv_nil _ _, tr0 w⟩⟩
 case round =>
  obtain ⟨k, V, hk, rfl, rfl, HX⟩ := hrel
  rename_i wr
  by_cases hlt : k < n
  · have HC := Lib.hid (pHandle (HV.out.below HX.out.2) (k : Int) ⟨by omega, by omega⟩)
    by_cases ht : (t k).tk = true
    · have HN := Lib.hid (show hdsB t (k + 1) = hdsB t k ++ [hd (t k) k] by show hdsB t k ++ _ = _; rw [ht, if_pos rfl])
      rw [show hdlI n t (k : Int) = hd (t k) k by unfold hdlI; rw [Int.toNat_natCast, if_pos ⟨by omega, by omega, ht⟩]] at HC
      have hnz : (hd (t k) k != 0) = true := by have := (HV.out.ok k hlt).g0; unfold hd; simp; omega
      have HL := Lib.hid (show (hdsB t k).length < 5000 from Nat.lt_of_le_of_lt (hdsB_len t k) (by omega))
      clear ht
      generalize hd (t k) k = H at *
      go_wp2_with fail
      refine HC.out.mono ?_
      rintro e w2 ⟨rfl, hb2⟩
      have hbb := trA hb2 (oUv H)
      have HU := Lib.hid (HX.out.1.below hbb)
      have HB := Lib.hid (tr HX.out.2 hbb)
      have HY := Lib.hid (blk_new w2 (oUv H))
      have HG := Lib.hid (show w.heap.size ≤ (w2.alloc (oUv H)).heap.size from HB.out.size)
      clear hbb HX HC hb2
      go_wp2_with (first
       | (refine buildUv rfl (.tmp 17) rfl rfl ?_)
       | (refine appendUv rfl (.tmp 16) (.tmp 18) rfl rfl HU.out rfl HY.out HL.out HG.out ?_; intro v' w3 h3 ho; have HX := Lib.hid (show UvAt w3 w.heap.size v' (hdsB t (k + 1)) ∧ Below w.heap.size w w3 from ⟨by rw [HN.out]; exact h3, Off.toBelow HB.out ho (fun j hj e => by have := (HU.out.block e).1; omega) (Nat.le_refl _)⟩); clear h3 ho))
      go_roundw
      case rel => exact ⟨k + 1, _, by omega, by go_num, rfl, HX⟩
      case measure => simp [intOf]; omega
    · have HN := Lib.hid (show hdsB t (k + 1) = hdsB t k by show hdsB t k ++ _ = _; rw [if_neg ht, List.append_nil])
      rw [show hdlI n t (k : Int) = 0 by unfold hdlI; rw [Int.toNat_natCast, if_neg (fun h => ht h.2.2)]] at HC
      clear ht
      go_wp2_with fail
      refine HC.out.mono ?_
      rintro e w2 ⟨rfl, hb2⟩
      have hu2 := HX.out.1.below hb2
      rw [← HN.out] at hu2
      have HX2 := Lib.hid (And.intro hu2 (tr HX.out.2 hb2))
      clear hu2
      clear hb2 HX HC
      go_wp2_with fail
      go_roundw
      case rel => exact ⟨k + 1, _, by omega, by go_num, rfl, HX2⟩
      case measure => simp [intOf]; omega
  · obtain rfl : k = n := by omega
    go_wp2_with fail
    go_ret
    exact ⟨_, rfl, HX.out.1, HX.out.2⟩
theorem pClear (V : VAt w p m g gc f fc n t F) (ok : ∀ i, i < n → (t i).ok 1099511627000) : Calls Try.prog 21 #[.pointer (some ⟨p, 0, none⟩)] w
 fun e w' => e = .returned (.int .i64 (hdsB t n).length) ∧ (∃ F', PlAt w' p m g gc f fc n (clearT t) F') ∧ Off (own4 p m g f) w w' := by
 have n0 := V.n0
 have n1 := V.n1
 have HH := Lib.hid (pHandles V)
 have HV := Lib.hid V
 have HOK := Lib.hid ok
 have hlen := hdsB_len t n
 have hlt4 := Lib.hid V.A.B.lt
 clear V ok
 go_enter Try.func21, Try.ntmps21
 go_wp2_with fail
 refine HH.out.mono ?_
 rintro e w1 ⟨v, rfl, hU, hb1⟩
 obtain ⟨y, cap, rfl, hcm, hlc, _⟩ := hU.form
 have HU := Lib.hid hU
 have HB := Lib.hid hb1
 have HP := Lib.hid (HV.out.A.below hb1)
 clear hU hb1 HH HV
 unfold maxLen at hcm
 have HLn := Lib.hid (show (hdsB t n).length = (hdsB t n).length from rfl)
 go_wp2_with fail
 go_loopw [10] (fun i wr => ∃ (k : Nat), k ≤ (hdsB t n).length ∧ i = .int .i64 k ∧ Hid ((∃ F', PlAt wr p m g gc f fc n (drp t k) F') ∧ UvAt wr w.heap.size (.slice y (hdsB t n).length cap) (hdsB t n) ∧ Off (own4 p m g f) w wr)) (fun i wr => (hdsB t n).length - (intOf i).toNat)
 case atStart => exact ⟨0, Nat.zero_le _, rfl, Lib.hid ⟨by rw [drp_zero]; exact ⟨F, HP.out⟩, HU.out, Off.ofBelow HB.out⟩⟩
 case round =>
  obtain ⟨k, hk, rfl, HX⟩ := hrel
  rename_i wr
  by_cases hlt : k < (hdsB t n).length
  · obtain ⟨i, hi, hti, hri, hgi⟩ := hds_at t n k hlt
    obtain ⟨gl, x, rfl, h1, h2, hgl, hx, cx⟩ := HX.out.2.1.cell2 rfl hlt
    obtain rfl : x = hd (t i) i := by rw [hgi] at hx; exact (Option.some.inj hx).symm
    obtain ⟨⟨F', hP⟩, hU, hO⟩ := HX.out
    obtain ⟨s1, s2⟩ := drp_step HOK.out n1 hi hti hri
    have hxu : u64r (hd (t i) i) := by have := HOK.out i hi; have g0 := this.g0; have g1 : (t i).g ≤ 1099511627000 := this.g1; unfold hd; exact ⟨by omega, by omega⟩
    have HD := Lib.hid (pDrop (⟨hP, n0, n1, fun i hi => (drp_ok HOK.out k i hi).more (by decide)⟩ : VAt wr p m g gc f fc n (drp t k) F') _ hxu)
    rw [s2] at HD
    have HUU := Lib.hid hU
    have HO := Lib.hid hO
    have hown := Lib.hid (hU.block (b := gl) rfl)
    clear HX hP hU hO s1 s2 hxu hx hgi hri hti
    generalize hd (t i) i = H at *
    generalize hdsB t n = L at *
    go_wp2_with fail
    refine HD.out.mono ?_
    rintro e w2 ⟨rfl, hP2, ho2⟩
    have HX2 := Lib.hid (And.intro hP2 (And.intro (HUU.out.off ho2 (fun b e hb => by
     have e2 : gl = b := Option.some.inj e
     subst e2
     have := hlt4.out _ hb
     have := hown.out.1
     omega)) (HO.out.trans ho2)))
    clear hP2 ho2 HD HUU HO
    go_wp2_with fail
    go_roundw
    case rel => exact ⟨k + 1, by omega, by go_num, HX2⟩
    case measure => simp [intOf]; omega
  · obtain rfl : k = (hdsB t n).length := by omega
    obtain ⟨⟨F', hP⟩, hU, hO⟩ := HX.out
    have HP2 := Lib.hid (hP.congr (fun i hi => drp_all t n i hi))
    have HO := Lib.hid hO
    clear HX hP hU hO
    go_wp2_with fail
    go_ret
    exact ⟨rfl, ⟨F', HP2.out⟩, HO.out⟩
end
theorem nHandle (a : Int) (w : World) : Calls Try.prog 25 #[.pointer none, .int .i64 a] w fun e w' => e = .returned (.int .u64 0) ∧ Below w.heap.size w w' := by
 go_enter Try.func25, Try.ntmps25
 go_wp2_with fail
 go_ret
 exact ⟨rfl, tr0 _⟩
theorem nRoom (w : World) : Calls Try.prog 29 #[.pointer none] w fun e w' => e = .returned (.int .i64 0) ∧ Below w.heap.size w w' := by
 go_enter Try.func29, Try.ntmps29
 go_wp2_with fail
 go_ret
 exact ⟨rfl, tr0 _⟩
theorem nLive (w : World) : Calls Try.prog 26 #[.pointer none] w fun e w' => e = .returned (.int .i64 0) ∧ Below w.heap.size w w' := by
 go_enter Try.func26, Try.ntmps26
 go_wp2_with fail
 go_ret
 exact ⟨rfl, tr0 _⟩
theorem nCopy (w : World) : Calls Try.prog 22 #[.pointer none] w fun e w' => e = .returned (.pointer none) ∧ Below w.heap.size w w' := by
 go_enter Try.func22, Try.ntmps22
 go_wp2_with fail
 go_ret
 exact ⟨rfl, tr0 _⟩
theorem nPut (d q o : Int) (w : World) : Calls Try.prog 13 #[.pointer none, .agg (e3 d q o).toArray] w fun e w' => e = .returned (.tuple #[.int .u64 0, .int .i64 1]) ∧ Below w.heap.size w w' := by
 show Calls Try.prog 13 #[.pointer none, .agg #[.int .u64 d, .int .u64 q, .int .u64 o]] w _
 go_enter Try.func13, Try.ntmps13
 go_wp2_with fail
 go_ret2
 exact ⟨rfl, trA (tr0 _) _⟩
theorem nHandles (w : World) : Calls Try.prog 28 #[.pointer none] w fun e w' => e = .returned (.slice none 0 0) ∧ Below w.heap.size w w' := by
 go_enter Try.func28, Try.ntmps28
 go_wp2_with fail
 refine (nRoom _).mono ?_
 rintro e w1 ⟨rfl, hb1⟩
 go_wp2_with fail
 refine wp_loop_rounds 1 ?_
 rw [rounds_succ]
 go_wp2_with fail
 go_ret
 exact ⟨rfl, hb1⟩
theorem nClear (w : World) : Calls Try.prog 21 #[.pointer none] w fun e w' => e = .returned (.int .i64 0) ∧ Below w.heap.size w w' := by
 go_enter Try.func21, Try.ntmps21
 go_wp2_with fail
 refine (nHandles _).mono ?_
 rintro e w1 ⟨rfl, hb1⟩
 go_wp2_with fail
 refine wp_loop_rounds 1 ?_
 rw [rounds_succ]
 go_wp2_with fail
 go_ret
 exact ⟨rfl, hb1⟩
theorem nFind (x : Int) (w : World) (hx : u64r x) : Calls Try.prog 34 #[.pointer none, .int .u64 x] w fun e w' => e = .returned (.tuple #[.agg #[.int .i64 (x % 4096)], .bool false]) ∧ Below w.heap.size w w' := by
 have x0 := hx.1
 have x1 := hx.2
 have HB0 := Lib.hid (trA (tr0 w) (.cells #[.int .i64 0] tSp))
 have HX := Lib.hid (blk_new w (.cells #[.int .i64 0] tSp))
 by_cases hz : x = 0
 · subst hz
   have hs := Lib.hid (fun w => poolSplit 0 w hx)
   clear hx
   go_enter Try.func34, Try.ntmps34
   go_wp2_with fail
   refine (hs.out _).mono ?_
   rintro e w1 ⟨rfl, hb1⟩
   have hX1 := blk_below hb1 HX.out (by simp)
   have HB1 := Lib.hid (tr HB0.out hb1)
   have hc0 := blk_free hX1 0
   have hl := lt_of_block hX1
   have d0 := blk_cell hX1 0
   simp only [List.getElem?_toArray, List.getElem?_cons_zero, List.getElem?_cons_succ] at d0
   have HX1 := Lib.hid hX1
   clear hX1 hb1 hs HX HB0
   go_wp2_with fail
   have h1 := blk_set HX1.out 0 (.int .i64 0)
   refine bodyPost_ret (v := .tuple #[.agg #[.int .i64 0], .bool false]) ?_ rfl ⟨rfl, HB1.out.setCell (p := ⟨w.heap.size, 0, none⟩) (Nat.le_refl _) _⟩
   exact results_cell_slot rfl _ _ w.heap.size 0 _ [.int .i64 0] _ rfl rfl h1 Try.underlying71 rfl iSp (part_all _)
 · have hs := Lib.hid (fun w => poolSplit x w hx)
   have hne : (x != 0) = true := by simp [hz]
   have hne2 : (x == 0) = false := by simp [hz]
   clear hx hz
   go_enter Try.func34, Try.ntmps34
   go_wp2_with fail
   refine (hs.out _).mono ?_
   rintro e w1 ⟨rfl, hb1⟩
   have hX1 := Lib.hid (blk_below hb1 HX.out (by simp))
   have hB1 := Lib.hid (tr HB0.out hb1)
   clear hs HX HB0 hb1
   go_wp2_with fail
   refine (nHandle _ _).mono ?_
   rintro e w2 ⟨rfl, hb2⟩
   have hX2 := blk_below hb2 hX1.out (lt_of_block hX1.out)
   have HB2 := Lib.hid (tr hB1.out hb2)
   have hc0 := blk_free hX2 0
   have hl := lt_of_block hX2
   have d0 := blk_cell hX2 0
   simp only [List.getElem?_toArray, List.getElem?_cons_zero, List.getElem?_cons_succ] at d0
   have HX2 := Lib.hid hX2
   clear hX2 hb2 hX1 hB1
   go_wp2_with fail
   have h1 := blk_set HX2.out 0 (.int .i64 (x % 4096))
   refine bodyPost_ret (v := .tuple #[.agg #[.int .i64 (x % 4096)], .bool false]) ?_ rfl ⟨rfl, HB2.out.setCell (p := ⟨w.heap.size, 0, none⟩) (Nat.le_refl _) _⟩
   exact results_cell_slot rfl _ _ w.heap.size 0 _ [.int .i64 (x % 4096)] _ rfl rfl h1 Try.underlying71 rfl iSp (part_all _)
theorem nPlace (x : Int) (w : World) (hx : u64r x) : Calls Try.prog 19 #[.pointer none, .int .u64 x] w fun e w' => e = .returned (.int .i64 (-1)) ∧ Below w.heap.size w w' := by
 go_enter Try.func19, Try.ntmps19
 go_wp2_with fail
 refine (nFind x _ hx).mono ?_
 rintro e w1 ⟨rfl, hb1⟩
 go_wp2_with fail
 go_ret
 exact ⟨rfl, trA hb1 _⟩
theorem nDrop (x : Int) (w : World) (hx : u64r x) : Calls Try.prog 15 #[.pointer none, .int .u64 x] w fun e w' => e = .returned (.bool false) ∧ Below w.heap.size w w' := by
 go_enter Try.func15, Try.ntmps15
 go_wp2_with fail
 refine (nFind x _ hx).mono ?_
 rintro e w1 ⟨rfl, hb1⟩
 go_wp2_with fail
 go_ret
 exact ⟨rfl, trA hb1 _⟩
theorem nSet (x d q o : Int) (w : World) (hx : u64r x) : Calls Try.prog 17 #[.pointer none, .int .u64 x, .agg (e3 d q o).toArray] w fun e w' => e = .returned (.bool false) ∧ Below w.heap.size w w' := by
 show Calls Try.prog 17 #[.pointer none, .int .u64 x, .agg #[.int .u64 d, .int .u64 q, .int .u64 o]] w _
 have HB0 := Lib.hid (trA (tr0 w) (.cells #[.int .u64 d, .int .u64 q, .int .u64 o] tEn))
 go_enter Try.func17, Try.ntmps17
 go_wp2_with fail
 refine (nFind x _ hx).mono ?_
 rintro e w1 ⟨rfl, hb1⟩
 have HB := Lib.hid (tr HB0.out (trA hb1 (oSp (x % 4096))))
 clear hb1 HB0
 go_wp2_with fail
 go_ret
 exact ⟨rfl, HB.out⟩
theorem nGet (x : Int) (w : World) (hx : u64r x) : Calls Try.prog 18 #[.pointer none, .int .u64 x] w fun e w' => e = .returned (.tuple #[.agg (e3 0 0 0).toArray, .bool false]) ∧ Below w.heap.size w w' := by
 have HB0 := Lib.hid (trA (tr0 w) (.cells #[.int .u64 0, .int .u64 0, .int .u64 0] tEn))
 have HX := Lib.hid (blk_new w (.cells #[.int .u64 0, .int .u64 0, .int .u64 0] tEn))
 go_enter Try.func18, Try.ntmps18
 go_wp2_with fail
 refine (nFind x _ hx).mono ?_
 rintro e w1 ⟨rfl, hb1⟩
 have hb2 := trA hb1 (oSp (x % 4096))
 have HB2 := Lib.hid (tr HB0.out hb2)
 have hX2 := blk_below hb2 HX.out (by simp)
 have X := Lib.hid hX2
 clear hb1 hb2 HB0 HX hX2
 go_upto_region 2 with (fail)
 rw [show Obj.cells #[Value.int .i64 (x % 4096)] tSp (0, 0) = oSp (x % 4096) from rfl]
 generalize w1.alloc (oSp (x % 4096)) = W at *
 have hX2 := X.out
 have hc0 := blk_free hX2 0
 have hc1 := blk_free hX2 1
 have hc2 := blk_free hX2 2
 have hl := lt_of_block hX2
 have d0 := blk_cell hX2 0
 have d1 := blk_cell hX2 1
 have d2 := blk_cell hX2 2
 simp only [List.getElem?_toArray, List.getElem?_cons_zero, List.getElem?_cons_succ] at d0 d1 d2
 clear hX2
 go_wp2_with fail
 have h1 := blk_set (blk_set (blk_set X.out 0 (.int .u64 0)) 1 (.int .u64 0)) 2 (.int .u64 0)
 refine bodyPost_ret (v := .tuple #[.agg (e3 0 0 0).toArray, .bool false]) ?_ rfl ⟨rfl, ((HB2.out.setCell (p := ⟨w.heap.size, 0, none⟩) (Nat.le_refl _) _).setCell (p := ⟨w.heap.size, 1, none⟩) (Nat.le_refl _) _).setCell (p := ⟨w.heap.size, 2, none⟩) (Nat.le_refl _) _⟩
 exact results_cell_slot rfl _ _ w.heap.size 0 _ (e3 0 0 0) _ rfl rfl h1 Try.underlying33 rfl iEn (part_all _)
end Go.Proofs.Ytggmllobcemhhaa.B
