/- Layer 9: latched, Latch, check, Load, Store, Copy, Word. -/
import Derived.Test.YtahhgeimbdlhpaaSCode
namespace Go.Proofs.Ytahhgeimbdlhpaa.B
set_option linter.unusedVariables false
set_option linter.unusedSimpArgs false
open Go.ChangeShapes Go.WideShapes Go.RowKit Go.Sort
theorem rsLatched (t : Rs) (c : Int) (w : World) (h : t.ok) (hc : 0 ≤ c) (hc1 : c < 4294967296) :
    Calls Try.prog 25 #[.agg (al t).toArray, .int .u32 c] w fun e w' => e = .returned (.agg (al (t.put c)).toArray) ∧ Below w.heap.size w w' := by
  have hB := trA (trA (tr0 w) (oS9 tSw t)) (oS9 tSw rs0)
  have X : SAt ((w.alloc (oS9 tSw t)).alloc (oS9 tSw rs0)) w.heap.size tSw t := b2_0 w _ _
  have Y : SAt ((w.alloc (oS9 tSw t)).alloc (oS9 tSw rs0)) (w.heap.size + 1) tSw rs0 := b2_1 w _ _
  have n0 := h.c0
  have n1 := h.c1
  have HP : (⟨bits BinOp.or IntKind.u32 t.ca c, up1 t.ct, c, false⟩ : Rs) = t.put c := rfl
  by_cases hm : t.ct < 4294967295
  · have hu : up1 t.ct = t.ct + 1 := by unfold up1; rw [if_pos hm]
    rw [hu] at HP
    clear hu
    go_enter Try.func25, Try.ntmps25
    go_upto_region 1 with (fail)
    rw [zS_eq, oS9_eq]
    generalize ((w.alloc (oS9 tSw t)).alloc (oS9 tSw rs0)) = W at *
    have x0 := X.c0
    have x1 := X.c1
    have x3 := X.c3
    have x4 := X.c4
    have f0 := X.free 0
    have f1 := X.free 1
    have f3 := X.free 3
    have f4 := X.free 4
    go_upto_region 6 with (fail)
    have X2 := (((X.s0 (bits BinOp.or IntKind.u32 t.ca c)).s3 c).s1 (t.ct + 1)).s4 false
    have Y2 := (((Y.other w.heap.size 0 (.int .u32 (bits BinOp.or IntKind.u32 t.ca c)) (by omega)).other w.heap.size 3 (.int .u32 c) (by omega)).other w.heap.size 1 (.int .u32 (t.ct + 1)) (by omega)).other w.heap.size 4 (.bool false) (by omega)
    have hB2 := (((hB.setCell (p := ⟨w.heap.size, 0, none⟩) (by simp) (.int .u32 (bits BinOp.or IntKind.u32 t.ca c))).setCell (p := ⟨w.heap.size, 3, none⟩) (by simp) (.int .u32 c)).setCell (p := ⟨w.heap.size, 1, none⟩) (by simp) (.int .u32 (t.ct + 1))).setCell (p := ⟨w.heap.size, 4, none⟩) (by simp) (.bool false)
    clear X Y hB x0 x1 x3 x4 f0 f1 f3 f4
    generalize ((((W.setCell ⟨w.heap.size, 0, none⟩ (.int .u32 (bits BinOp.or IntKind.u32 t.ca c))).setCell ⟨w.heap.size, 3, none⟩ (.int .u32 c)).setCell ⟨w.heap.size, 1, none⟩ (.int .u32 (t.ct + 1))).setCell ⟨w.heap.size, 4, none⟩ (.bool false)) = W2 at *
    have X3 : SAt W2 w.heap.size tSw (t.put c) := by rw [← HP]; exact X2
    clear X2 HP
    have Y3 := SAt.row Y2 (t.put c)
    have hB3 := below_setRow hB2 (al (t.put c)).toArray (g := w.heap.size + 1) (by omega)
    go_wp2_with (first | (refine loadS rfl (.tmp 2) rfl rfl X3 ?_) | (refine storeS rfl (.tmp 4) (.tmp 26) rfl rfl rfl Y2 ?_))
    exact bodyPost_ret (resS rfl _ _ rfl Y3) rfl ⟨rfl, hB3⟩
  · have hu : up1 t.ct = t.ct := by unfold up1; rw [if_neg hm]
    rw [hu] at HP
    clear hu
    go_enter Try.func25, Try.ntmps25
    go_upto_region 1 with (fail)
    rw [zS_eq, oS9_eq]
    generalize ((w.alloc (oS9 tSw t)).alloc (oS9 tSw rs0)) = W at *
    have x0 := X.c0
    have x1 := X.c1
    have x3 := X.c3
    have x4 := X.c4
    have f0 := X.free 0
    have f1 := X.free 1
    have f3 := X.free 3
    have f4 := X.free 4
    go_upto_region 6 with (fail)
    have X2 := ((X.s0 (bits BinOp.or IntKind.u32 t.ca c)).s3 c).s4 false
    have Y2 := ((Y.other w.heap.size 0 (.int .u32 (bits BinOp.or IntKind.u32 t.ca c)) (by omega)).other w.heap.size 3 (.int .u32 c) (by omega)).other w.heap.size 4 (.bool false) (by omega)
    have hB2 := ((hB.setCell (p := ⟨w.heap.size, 0, none⟩) (by simp) (.int .u32 (bits BinOp.or IntKind.u32 t.ca c))).setCell (p := ⟨w.heap.size, 3, none⟩) (by simp) (.int .u32 c)).setCell (p := ⟨w.heap.size, 4, none⟩) (by simp) (.bool false)
    clear X Y hB x0 x1 x3 x4 f0 f1 f3 f4
    generalize (((W.setCell ⟨w.heap.size, 0, none⟩ (.int .u32 (bits BinOp.or IntKind.u32 t.ca c))).setCell ⟨w.heap.size, 3, none⟩ (.int .u32 c)).setCell ⟨w.heap.size, 4, none⟩ (.bool false)) = W2 at *
    have X3 : SAt W2 w.heap.size tSw (t.put c) := by rw [← HP]; exact X2
    clear X2 HP
    have Y3 := SAt.row Y2 (t.put c)
    have hB3 := below_setRow hB2 (al (t.put c)).toArray (g := w.heap.size + 1) (by omega)
    go_wp2_with (first | (refine loadS rfl (.tmp 2) rfl rfl X3 ?_) | (refine storeS rfl (.tmp 4) (.tmp 26) rfl rfl rfl Y2 ?_))
    exact bodyPost_ret (resS rfl _ _ rfl Y3) rfl ⟨rfl, hB3⟩
theorem off_rowS (w : World) (p : Nat) (cs : Array Value) : Off (· = p) w (w.setRow p cs) := ⟨rfl, rfl, rfl, by simp, fun k _ hs => setRow_other w p k cs hs⟩
/-- What Latch returns, and leaves. -/
theorem rsLatchYes (t : Rs) (c : Int) (p : Nat) (w : World) (h : t.ok) (hc : isC c) (a : SAt w p tS t) :
    Calls Try.prog 9 #[.pointer (some ⟨p, 0, none⟩), .int .i64 c] w fun e w' => e = .returned (.bool true) ∧ SAt w' p tS (t.put c) ∧ Off (· = p) w w' := by
  obtain ⟨b0, b1⟩ := isC_bounds hc
  have HN := Lib.hid (fun w => by have := rsNone t w; rw [isz_ok h] at this; exact this)
  obtain ⟨s, hs⟩ : ∃ s, t.put c = s := ⟨_, rfl⟩
  have HL := Lib.hid (fun w => by have := rsLatched t c w h (by omega) (by omega); rw [hs] at this; exact this)
  rw [hs]
  clear hs
  go_enter Try.func9, Try.ntmps9
  go_wp2_with fail
  refine (rsNow t p _ a).mono ?_
  rintro e w1 ⟨rfl, h1⟩
  go_wp2_with fail
  refine (HN.out _).mono ?_
  rintro e w2 ⟨rfl, h2⟩
  have A := (a.below (tr h1 h2))
  have hB := tr h1 h2
  clear h1 h2 HN a
  unfold isC at hc
  rcases hc with rfl | rfl | rfl | rfl
  all_goals
    go_wp2_with (refine loadS rfl (.tmp 17) rfl rfl A ?_)
    refine (HL.out _).mono ?_
    rintro e w3 ⟨rfl, h3⟩
    have A3 := A.below h3
    have Z := SAt.row A3 s
    have hO := (Off.ofBelow (S := (· = p)) hB).trans ((Off.ofBelow h3).trans (off_rowS w3 p (al s).toArray))
    go_wp2_with (refine storeS rfl (.tmp 23) (.tmp 21) rfl rfl rfl A3 ?_)
    go_ret
    exact ⟨rfl, Z, hO⟩
theorem rsLatchNo (t : Rs) (c : Int) (p : Nat) (w : World) (h : t.ok) (hc : ¬ isC c) (a : SAt w p tS t) :
    Calls Try.prog 9 #[.pointer (some ⟨p, 0, none⟩), .int .i64 c] w fun e w' => e = .returned (.bool false) ∧ Below w.heap.size w w' := by
  have HN := Lib.hid (fun w => by have := rsNone t w; rw [isz_ok h] at this; exact this)
  have n2 : (c == 2) = false := by unfold isC at hc; simp; omega
  have n4 : (c == 4) = false := by unfold isC at hc; simp; omega
  have n8 : (c == 8) = false := by unfold isC at hc; simp; omega
  have n16 : (c == 16) = false := by unfold isC at hc; simp; omega
  clear hc
  go_enter Try.func9, Try.ntmps9
  go_wp2_with fail
  refine (rsNow t p _ a).mono ?_
  rintro e w1 ⟨rfl, h1⟩
  go_wp2_with fail
  refine (HN.out _).mono ?_
  rintro e w2 ⟨rfl, h2⟩
  go_wp2_with fail
  go_ret
  exact ⟨rfl, tr h1 h2⟩
/-- Both. -/
theorem rsLatch (t : Rs) (c : Int) (p : Nat) (w : World) (h : t.ok) (a : SAt w p tS t) :
    Calls Try.prog 9 #[.pointer (some ⟨p, 0, none⟩), .int .i64 c] w fun e w' => e = .returned (.bool (decide (isC c))) ∧ SAt w' p tS (t.ltc c) ∧ Off (· = p) w w' := by
  by_cases hc : isC c
  · have e1 : t.ltc c = t.put c := by unfold Rs.ltc; rw [if_pos hc]
    rw [e1, decide_eq_true hc]
    exact rsLatchYes t c p w h hc a
  · have e1 : t.ltc c = t := by unfold Rs.ltc; rw [if_neg hc]
    rw [e1, decide_eq_false hc]
    refine (rsLatchNo t c p w h hc a).mono ?_
    rintro e w1 ⟨rfl, h1⟩
    exact ⟨rfl, a.below h1, Off.ofBelow h1⟩
theorem rsLatchNil (c : Int) (w : World) :
    Calls Try.prog 9 #[.pointer none, .int .i64 c] w fun e w' => e = .returned (.bool false) ∧ Below w.heap.size w w' := by
  have HN := Lib.hid (fun w => by have := rsNone rs0 w; rw [isz0] at this; exact this)
  go_enter Try.func9, Try.ntmps9
  go_wp2_with fail
  refine (rsNowNil _).mono ?_
  rintro e w1 ⟨rfl, h1⟩
  go_wp2_with fail
  refine (HN.out _).mono ?_
  rintro e w2 ⟨rfl, h2⟩
  go_wp2_with fail
  go_ret
  exact ⟨rfl, tr h1 h2⟩
theorem rsCheck (t : Rs) (o : Int) (p : Nat) (w : World) (h : t.ok) (a : SAt w p tS t) (o0 : 0 ≤ o) (o1 : o < 4294967296) :
    Calls Try.prog 27 #[.pointer (some ⟨p, 0, none⟩), .int .u32 o] w fun e w' => e = .returned (.int .i64 (sErr9 o)) ∧ Below w.heap.size w w' := by
  have HN := Lib.hid (fun w => by have := rsNone t w; rw [isz_ok h] at this; exact this)
  cases h4 : (o % 4 != 0)
  · by_cases h16 : 16 ≤ o
    · have HE := Lib.hid (show sErr9 o = 10 by unfold sErr9; rw [if_neg (by simpa using h4), if_pos h16])
      go_enter Try.func27, Try.ntmps27
      go_wp2_with fail
      refine (rsNow t p _ a).mono ?_
      rintro e w1 ⟨rfl, h1⟩
      go_wp2_with fail
      refine (HN.out _).mono ?_
      rintro e w2 ⟨rfl, h2⟩
      go_wp2_with fail
      go_ret
      exact ⟨ret_int HE.out.symm, tr h1 h2⟩
    · have HE := Lib.hid (show sErr9 o = 0 by unfold sErr9; rw [if_neg (by simpa using h4), if_neg h16])
      go_enter Try.func27, Try.ntmps27
      go_wp2_with fail
      refine (rsNow t p _ a).mono ?_
      rintro e w1 ⟨rfl, h1⟩
      go_wp2_with fail
      refine (HN.out _).mono ?_
      rintro e w2 ⟨rfl, h2⟩
      go_wp2_with fail
      go_ret
      exact ⟨ret_int HE.out.symm, tr h1 h2⟩
  · have HE := Lib.hid (show sErr9 o = 11 by unfold sErr9; rw [if_pos (by simpa using h4)])
    go_enter Try.func27, Try.ntmps27
    go_wp2_with fail
    refine (rsNow t p _ a).mono ?_
    rintro e w1 ⟨rfl, h1⟩
    go_wp2_with fail
    refine (HN.out _).mono ?_
    rintro e w2 ⟨rfl, h2⟩
    go_wp2_with fail
    go_ret
    exact ⟨ret_int HE.out.symm, tr h1 h2⟩
theorem rsCheckNil (o : Int) (w : World) :
    Calls Try.prog 27 #[.pointer none, .int .u32 o] w fun e w' => e = .returned (.int .i64 10) ∧ Below w.heap.size w w' := by
  have HN := Lib.hid (fun w => by have := rsNone rs0 w; rw [isz0] at this; exact this)
  go_enter Try.func27, Try.ntmps27
  go_wp2_with fail
  refine (rsNowNil _).mono ?_
  rintro e w1 ⟨rfl, h1⟩
  go_wp2_with fail
  refine (HN.out _).mono ?_
  rintro e w2 ⟨rfl, h2⟩
  go_wp2_with fail
  go_ret
  exact ⟨rfl, tr h1 h2⟩
def sVal9 (t : Rs) (o : Int) : Int := if sErr9 o = 0 then t.val o else 0
set_option maxHeartbeats 800000 in
theorem rsLoad (t : Rs) (o : Int) (p : Nat) (w : World) (h : t.ok) (a : SAt w p tS t) (o0 : 0 ≤ o) (o1 : o < 4294967296) :
    Calls Try.prog 11 #[.pointer (some ⟨p, 0, none⟩), .int .u32 o] w fun e w' => e = .returned (.tuple #[.int .u32 (sVal9 t o), .int .i64 (sErr9 o)]) ∧ Below w.heap.size w w' := by
  have HC := Lib.hid (fun w a => rsCheck t o p w h a o0 o1)
  obtain ⟨V, hV⟩ : ∃ V, sVal9 t o = V := ⟨_, rfl⟩
  by_cases he : sErr9 o = 0
  · rw [he] at HC ⊢
    have hv : V = t.val o := by rw [← hV]; unfold sVal9; rw [if_pos he]
    rw [hV]
    clear hV
    rcases sErr9_zero o0 he with rfl | rfl | rfl | rfl
    · replace hv : V = t.ca := hv
      subst hv
      clear he
      go_enter Try.func11, Try.ntmps11
      go_wp2_with fail
      refine (HC.out _ a).mono ?_
      rintro e w1 ⟨rfl, h1⟩
      have A := a.below h1
      have x0 := A.c0
      go_wp2_with fail
      go_ret2
      exact ⟨rfl, h1⟩
    · replace hv : V = t.ct := hv
      subst hv
      clear he
      go_enter Try.func11, Try.ntmps11
      go_wp2_with fail
      refine (HC.out _ a).mono ?_
      rintro e w1 ⟨rfl, h1⟩
      have A := a.below h1
      have x0 := A.c1
      go_wp2_with fail
      go_ret2
      exact ⟨rfl, h1⟩
    · replace hv : V = 0 := hv
      subst hv
      clear he
      go_enter Try.func11, Try.ntmps11
      go_wp2_with fail
      refine (HC.out _ a).mono ?_
      rintro e w1 ⟨rfl, h1⟩
      have A := a.below h1
      have x0 := A.c2
      go_wp2_with fail
      go_ret2
      exact ⟨rfl, h1⟩
    · replace hv : V = t.la := hv
      subst hv
      clear he
      go_enter Try.func11, Try.ntmps11
      go_wp2_with fail
      refine (HC.out _ a).mono ?_
      rintro e w1 ⟨rfl, h1⟩
      have A := a.below h1
      have x0 := A.c3
      go_wp2_with fail
      go_ret2
      exact ⟨rfl, h1⟩
  · have hv : V = 0 := by rw [← hV]; unfold sVal9; rw [if_neg he]
    subst hv
    rw [hV]
    obtain ⟨E, hE⟩ : ∃ E, sErr9 o = E := ⟨_, rfl⟩
    rw [hE] at HC he ⊢
    have q1 : (E != 0) = true := by simpa using he
    clear hV hE he
    go_enter Try.func11, Try.ntmps11
    go_wp2_with fail
    refine (HC.out _ a).mono ?_
    rintro e w1 ⟨rfl, h1⟩
    go_wp2_with fail
    go_ret2
    exact ⟨rfl, h1⟩
theorem rsLoadNil (o : Int) (w : World) :
    Calls Try.prog 11 #[.pointer none, .int .u32 o] w fun e w' => e = .returned (.tuple #[.int .u32 0, .int .i64 10]) ∧ Below w.heap.size w w' := by
  go_enter Try.func11, Try.ntmps11
  go_wp2_with fail
  refine (rsCheckNil o _).mono ?_
  rintro e w1 ⟨rfl, h1⟩
  go_wp2_with fail
  go_ret2
  exact ⟨rfl, h1⟩
theorem rsStoreNil (o v : Int) (w : World) :
    Calls Try.prog 13 #[.pointer none, .int .u32 o, .int .u32 v] w fun e w' => e = .returned (.int .i64 10) ∧ Below w.heap.size w w' := by
  go_enter Try.func13, Try.ntmps13
  go_wp2_with fail
  refine (rsCheckNil o _).mono ?_
  rintro e w1 ⟨rfl, h1⟩
  go_wp2_with fail
  go_ret
  exact ⟨rfl, h1⟩
theorem rsCopy (t : Rs) (p : Nat) (w : World) (a : SAt w p tS t) :
    Calls Try.prog 14 #[.pointer (some ⟨p, 0, none⟩)] w fun e w' => e = .returned (.pointer (some ⟨w.heap.size, 0, none⟩)) ∧ SAt w' w.heap.size tS t ∧ Below w.heap.size w w' := by
  have x0 := a.c0
  have x1 := a.c1
  have x2 := a.c2
  have x3 := a.c3
  have x4 := a.c4
  have hb := trA (tr0 w) (oS9 tS t)
  have X := at_new w tS t
  have ha := a.lt
  go_enter Try.func14, Try.ntmps14
  go_wp2_with fail
  go_ret
  exact ⟨rfl, X, hb⟩
theorem rsCopyNil (w : World) : Calls Try.prog 14 #[.pointer none] w fun e w' => e = .returned (.pointer none) ∧ w = w' := by
  go_enter Try.func14, Try.ntmps14
  go_wp2_with fail
  go_ret
  exact ⟨rfl, rfl⟩
end Go.Proofs.Ytahhgeimbdlhpaa.B
