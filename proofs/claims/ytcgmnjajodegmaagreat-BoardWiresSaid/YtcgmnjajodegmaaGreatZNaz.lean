/- Several texts in one: Layer 8: Tick, Reset, Copy of a Wdog. Layer 9: Store, Word. A bus of any regions: its pages by themselves, and a seat more in one of them. 'm[k] = f(m[k])' in one statement: the entry is found, then laid; append as a step of a region that draws its order. -/
import Derived.Test.YtcgmnjajodegmaaGreatZNab
import Derived.Test.YtcgmnjajodegmaaGreatZNak
import Derived.Test.YtcgmnjajodegmaaGreatZNao
import Derived.Test.YtcgmnjajodegmaaGreatZNav
import Derived.Deep.RegionLaw
import Derived.Maps.AppendAt
namespace Go.Proofs.YtcgmnjajodegmaaGreat.B
set_option linter.unusedVariables false
set_option linter.unusedSimpArgs false
open Go.ChangeShapes Go.WideShapes Go.RowKit Go.Sort
theorem tick_end {t : Wd} {n : Int} (hen : t.en = true) (hf : t.fa = 0) (h : t.tot ≤ t.si + n) : t.tick n = { t with si := t.tot, fa := 2 } := by unfold Wd.tick; rw [if_pos ⟨hen, hf⟩, if_pos h]
theorem tick_on {t : Wd} {n : Int} (hen : t.en = true) (hf : t.fa = 0) (h : ¬ t.tot ≤ t.si + n) : t.tick n = { t with si := t.si + n } := by unfold Wd.tick; rw [if_pos ⟨hen, hf⟩, if_neg h]
theorem ran_end {t : Wd} {n : Int} (hen : t.en = true) (hf : t.fa = 0) (h : t.tot ≤ t.si + n) : t.ran n = t.tot - t.si := by unfold Wd.ran; rw [if_neg (by simp [hf]), if_pos hen, if_pos h]
theorem ran_on {t : Wd} {n : Int} (hen : t.en = true) (hf : t.fa = 0) (h : ¬ t.tot ≤ t.si + n) : t.ran n = n := by unfold Wd.ran; rw [if_neg (by simp [hf]), if_pos hen, if_neg h]
/-- Left at a count that may have come to its end (ahead of the fault's being laid). -/
theorem dLeft0 (t : Wd) (p : Nat) (w : World) (hen : t.en = true) (hf : t.fa = 0) (s0 : 0 ≤ t.si) (s1 : t.si ≤ t.tot) (t1 : t.tot < 4294967296) (a : DAt w p t) :
    Calls Tryz.prog 111 #[.pointer (some ⟨p, 0, none⟩)] w fun e w' => e = .returned (.int .u64 (t.tot - t.si)) ∧ Below w.heap.size w w' := by
  have x0 := a.c0
  have x1 := a.c1
  have x2 := a.c2
  have hr := dRuns t w
  rw [decide_eq_true (show t.en = true ∧ t.fa = 0 from ⟨hen, hf⟩)] at hr
  have hr := Lib.hid hr
  clear hen hf
  go_enter Tryz.func111, Tryz.ntmps111
  go_wp2_with fail
  refine (hr.out).mono ?_
  rintro e w1 ⟨rfl, hb⟩
  have a1 := a.below hb
  clear hr x0 x1 x2 a
  have x4 := a1.c4
  have x5 := a1.c5
  go_wp2_with fail
  have hg := gcell
  have hl := a1.lt
  refine wp_region_quiet_below (by kernel_rfl) (by kernel_rfl) ?_
  repeat (go_big_quiet_step (fail))
  refine wpQuiet_nil ?_
  intro _ hw'
  obtain ⟨⟨dq, osq⟩, hw''⟩ := hw'
  subst hw''
  go_wp2_with fail
  go_ret
  exact ⟨rfl, trG hb _ _⟩
set_option maxHeartbeats 1600000 in
theorem dTick (t : Wd) (n : Int) (p : Nat) (w : World) (h : t.ok) (a : DAt w p t) (n0 : 0 ≤ n) (n1 : n < 18446744073709551616) :
    Calls Tryz.prog 124 #[.pointer (some ⟨p, 0, none⟩), .int .u64 n] w fun e w' => e = .returned (.int .u64 (t.ran n)) ∧ DAt w' p (t.tick n) ∧ Off (· = p) w w' := by
  have F := Lib.hid (fun w a => dFault t p w a)
  have E := Lib.hid (fun w a => dEnabled t p w a)
  by_cases hf : t.fa = 0
  · have qf : (t.fa != 0) = false := by simp [hf]
    obtain ⟨en, hen⟩ : ∃ b, t.en = b := ⟨_, rfl⟩
    rw [hen] at E
    cases en
    · have e1 : t.tick n = t := by unfold Wd.tick; rw [if_neg (by rw [hen]; simp)]
      have e2 : t.ran n = n := by unfold Wd.ran; rw [if_neg (by simp [hf]), if_neg (by rw [hen]; simp)]
      rw [e1, e2]
      go_enter Tryz.func124, Tryz.ntmps124
      go_wp2_with fail
      refine (F.out _ a).mono ?_
      rintro e w' ⟨rfl, rfl⟩
      go_wp2_with fail
      refine (E.out _ a).mono ?_
      rintro e w' ⟨rfl, rfl⟩
      go_wp2_with fail
      go_ret
      exact ⟨rfl, a, Off.refl _ _⟩
    · have hlt := h.run hen hf
      have s0 := h.s0
      have t1 := h.t1
      obtain ⟨R, hR⟩ : ∃ R, t.tick n = R := ⟨_, rfl⟩
      obtain ⟨V, hV⟩ : ∃ V, t.ran n = V := ⟨_, rfl⟩
      rw [hR, hV]
      have HR := Lib.hid hR
      have HV := Lib.hid hV
      have L := Lib.hid (fun w a => dLeft0 t p w hen hf s0 (by omega) t1 a)
      clear hR hV h
      by_cases hge : t.tot ≤ t.si + n
      · have hv : V = t.tot - t.si := by rw [← HV.out, ran_end hen hf hge]
        have hr : R = { t with si := t.tot, fa := 2 } := by rw [← HR.out, tick_end hen hf hge]
        have hm : min n (t.tot - t.si) = t.tot - t.si := by omega
        have hs : t.si + (t.tot - t.si) = t.tot := by omega
        have L2 := Lib.hid (fun w a => by have := dLeft0 { t with si := t.tot } p w hen hf (by show 0 ≤ t.tot; omega) (Int.le_refl _) t1 a; rw [show t.tot - t.tot = 0 by omega] at this; exact this)
        rw [hv, hr]
        clear hv hr HR HV hen hf
        have hn : n = t.tot - t.si ∨ ¬ n ≤ t.tot - t.si := by omega
        rcases hn with rfl | hn
        all_goals
          go_enter Tryz.func124, Tryz.ntmps124
          go_wp2_with fail
          refine (F.out _ a).mono ?_
          rintro e w' ⟨rfl, rfl⟩
          go_wp2_with fail
          refine (E.out _ a).mono ?_
          rintro e w' ⟨rfl, rfl⟩
          go_wp2_with fail
          refine (L.out _ a).mono ?_
          rintro e w1 ⟨rfl, hb⟩
          have A := a.below hb
          have ho := Off.ofBelow (S := (· = p)) hb
          have x5 := A.c5
          have f5 := A.free 5
          clear a hb L F E
          go_wp2_with fail
          have A1 := A.s5 t.tot
          have ho1 := ho.trans (off_set w1 p 5 (.int .u64 t.tot))
          clear A ho x5 f5
          generalize w1.setCell ⟨p, 5, none⟩ (.int .u64 t.tot) = W1 at *
          refine (L2.out _ A1).mono ?_
          rintro e w2 ⟨rfl, hb⟩
          have A := A1.below hb
          have ho := ho1.trans (Off.ofBelow (S := (· = p)) hb)
          clear A1 hb L2 ho1
          have x2 := A.c2
          have f2 := A.free 2
          go_wp2_with fail
          go_ret
          exact ⟨rfl, A.s2 2, ho.trans (off_set _ _ _ _)⟩
      · have hv : V = n := by rw [← HV.out, ran_on hen hf hge]
        have hr : R = { t with si := t.si + n } := by rw [← HR.out, tick_on hen hf hge]
        have hm : min n (t.tot - t.si) = n := by omega
        have L2 := Lib.hid (fun w a => dLeft0 { t with si := t.si + n } p w hen hf (by show 0 ≤ t.si + n; omega) (by show t.si + n ≤ t.tot; omega) t1 a)
        have hq : (t.tot - (t.si + n) == 0) = false := by simp; omega
        rw [hv, hr]
        clear hv hr HR HV hen hf
        go_enter Tryz.func124, Tryz.ntmps124
        go_wp2_with fail
        refine (F.out _ a).mono ?_
        rintro e w' ⟨rfl, rfl⟩
        go_wp2_with fail
        refine (E.out _ a).mono ?_
        rintro e w' ⟨rfl, rfl⟩
        go_wp2_with fail
        refine (L.out _ a).mono ?_
        rintro e w1 ⟨rfl, hb⟩
        have A := a.below hb
        have ho := Off.ofBelow (S := (· = p)) hb
        have x5 := A.c5
        have f5 := A.free 5
        clear a hb L F E
        go_wp2_with fail
        have A1 := A.s5 (t.si + n)
        have ho1 := ho.trans (off_set w1 p 5 (.int .u64 (t.si + n)))
        clear A ho x5 f5
        generalize w1.setCell ⟨p, 5, none⟩ (.int .u64 (t.si + n)) = W1 at *
        refine (L2.out _ A1).mono ?_
        rintro e w2 ⟨rfl, hb⟩
        have A := A1.below hb
        have ho := ho1.trans (Off.ofBelow (S := (· = p)) hb)
        clear A1 hb L2 ho1
        have x2 := A.c2
        have f2 := A.free 2
        go_wp2_with fail
        go_ret
        exact ⟨rfl, A, ho⟩
  · have qf : (t.fa != 0) = true := by simp [hf]
    have e1 : t.tick n = t := by unfold Wd.tick; rw [if_neg (fun e => hf e.2)]
    have e2 : t.ran n = 0 := by unfold Wd.ran; rw [if_pos hf]
    rw [e1, e2]
    go_enter Tryz.func124, Tryz.ntmps124
    go_wp2_with fail
    refine (F.out _ a).mono ?_
    rintro e w' ⟨rfl, rfl⟩
    go_wp2_with fail
    go_ret
    exact ⟨rfl, a, Off.refl _ _⟩
theorem dTickNil (n : Int) (w : World) : Calls Tryz.prog 124 #[.pointer none, .int .u64 n] w fun e w' => e = .returned (.int .u64 n) ∧ w = w' := by
  go_enter Tryz.func124, Tryz.ntmps124
  go_wp2_with fail
  refine (dFaultNil _).mono ?_
  rintro e w' ⟨rfl, rfl⟩
  go_wp2_with fail
  refine (dEnabledNil _).mono ?_
  rintro e w' ⟨rfl, rfl⟩
  go_wp2_with fail
  go_ret
  exact ⟨rfl, rfl⟩
theorem iD : (Tryz.prog.info? 117).map (·.size) = some 7 := by kernel_rfl
theorem dl_one (t : Wd) : ∀ x ∈ dl t, x.oneCell' = true := by
  intro x h
  simp only [dl, List.mem_cons, List.not_mem_nil, or_false] at h
  rcases h with rfl | rfl | rfl | rfl | rfl | rfl | rfl <;> rfl
theorem DAt.row {old : Array Value} {w : World} {b : Nat} (h : w.heap[b]? = some (.cells old tD (0, 0))) (t : Wd) : DAt (w.setRow b (dl t).toArray) b t := row_set _ h
section
variable {ops : Array Oper} {rest : List Oper} {o : Oper} {a : Act} {w : World} {Q : Exit → Act → World → Prop}
theorem loadD (hgd : o.guard = none) (x : Operand) (ho : o.op = .load 117 x) {b : Nat} (hx : a.eval x = .pointer (some ⟨b, 0, none⟩)) {t : Wd} (hg : DAt w b t)
    (h : wpList Tryz.prog ops Q rest (a.put o.dst (.agg (dl t).toArray)) w) : wpList Tryz.prog ops Q (o :: rest) a w :=
  wpList_load_part hgd _ x ho b 0 hx _ (dl t) hg Tryz.underlying117 rfl iD (part_all _) h
theorem storeD (hgd : o.guard = none) (x y : Operand) (ho : o.op = .store 117 x y) {b : Nat} (hx : a.eval x = .pointer (some ⟨b, 0, none⟩)) {t : Wd} (hy : a.eval y = .agg (dl t).toArray) {t' : Wd} (hg : DAt w b t')
    (h : wpList Tryz.prog ops Q rest (a.put o.dst undef) (w.setRow b (dl t).toArray)) : wpList Tryz.prog ops Q (o :: rest) a w := by
  refine wpList_store_part hgd _ x y ho b 0 hx (dl t) hy hg iD (by simp [dl]) (dl_one _) ?_
  rw [spliced_all _ _ (by simp [dl])]
  exact h
end
theorem dReset (t : Wd) (p : Nat) (w : World) (a : DAt w p t) :
    Calls Tryz.prog 234 #[.pointer (some ⟨p, 0, none⟩)] w fun e w' => e = .returned (.tuple #[]) ∧ DAt w' p wz ∧ Off (· = p) w w' := by
  go_enter Tryz.func234, Tryz.ntmps234
  go_wp2_with (refine storeD rfl (.tmp 6) (.tmp 5) rfl rfl (t := wz) rfl a ?_)
  go_end0
  exact ⟨rfl, DAt.row a wz, offW_row _ _ _⟩
theorem dResetNil (w : World) : Calls Tryz.prog 234 #[.pointer none] w fun e w' => e = .returned (.tuple #[]) ∧ w = w' := by
  go_enter Tryz.func234, Tryz.ntmps234
  go_wp2_with fail
  refine bodyPost_ret (v := .tuple #[]) ?_ rfl ⟨rfl, rfl⟩
  simp [results, Tryz.results234, go_sem]
theorem dCopy (t : Wd) (p : Nat) (w : World) (a : DAt w p t) :
    Calls Tryz.prog 61 #[.pointer (some ⟨p, 0, none⟩)] w fun e w' => e = .returned (.pointer (some ⟨w.heap.size, 0, none⟩)) ∧ DAt w' w.heap.size t ∧ Below w.heap.size w w' := by
  have ha := a.lt
  have hb := trA (tr0 w) (.cells (dl wz).toArray tD (0, 0))
  have Y : DAt (w.alloc (.cells (dl wz).toArray tD (0, 0))) w.heap.size wz := blk_new w _
  have Z := DAt.row Y t
  have hB := below_setRow hb (dl t).toArray (g := w.heap.size) (Nat.le_refl _)
  go_enter Tryz.func61, Tryz.ntmps61
  go_wp2_with (first | (refine loadD rfl (.tmp 7) rfl rfl a ?_) | (refine storeD rfl (.tmp 3) (.tmp 8) rfl rfl (t := t) rfl Y ?_))
  go_ret
  exact ⟨rfl, Z, hB⟩
theorem dCopyNil (w : World) : Calls Tryz.prog 61 #[.pointer none] w fun e w' => e = .returned (.pointer none) ∧ w = w' := by
  go_enter Tryz.func61, Tryz.ntmps61
  go_wp2_with fail
  go_ret
  exact ⟨rfl, rfl⟩
end Go.Proofs.YtcgmnjajodegmaaGreat.B
namespace Go.Proofs.YtcgmnjajodegmaaGreat.B
set_option linter.unusedVariables false
set_option linter.unusedSimpArgs false
open Go.ChangeShapes Go.WideShapes Go.RowKit Go.Sort
theorem sErr_0 : sErr9 0 = 0 := rfl
theorem sErr_4 : sErr9 4 = 0 := rfl
theorem sErr_8 : sErr9 8 = 0 := rfl
theorem sErr_12 : sErr9 12 = 0 := rfl
theorem wErr_0 : wErr9 0 = 0 := rfl
theorem wErr_4 : wErr9 4 = 12 := rfl
theorem wErr_8 : wErr9 8 = 0 := rfl
theorem wErr_12 : wErr9 12 = 12 := rfl
set_option maxHeartbeats 800000 in
theorem rsStore0 (t : Rs) (v : Int) (p : Nat) (w : World) (h : t.ok) (a : SAt w p tS t) (v0 : 0 ≤ v) (v1 : v < 4294967296) :
    Calls Tryz.prog 267 #[.pointer (some ⟨p, 0, none⟩), .int .u32 0, .int .u32 v] w fun e w' => e = .returned (.int .i64 0) ∧ SAt w' p tS (t.clr v) ∧ Off (· = p) w w' := by
  have HC := Lib.hid (fun w a => by have := rsCheck t 0 p w h a (by omega) (by omega); rw [sErr_0] at this; exact this)
  go_enter Tryz.func267, Tryz.ntmps267
  go_wp2_with fail
  refine (HC.out _ a).mono ?_
  rintro e w1 ⟨rfl, h1⟩
  have A := a.below h1
  have x0 := A.c0
  have f0 := A.free 0
  have Z := A.s0 (bits BinOp.andNot IntKind.u32 t.ca v)
  have hO := (Off.ofBelow (S := (· = p)) h1).trans (off_set w1 p 0 (.int .u32 (bits BinOp.andNot IntKind.u32 t.ca v)))
  have Z2 := Z.below (trD (tr0 _))
  have hO2 := hO.trans (off_drew _)
  clear a h1 HC
  go_wp2_with fail
  go_region
  all_goals
    go_wp2_with fail
    go_ret
    first | exact ⟨rfl, Z, hO⟩ | exact ⟨rfl, Z2, hO2⟩
theorem rsStore8 (t : Rs) (v : Int) (p : Nat) (w : World) (h : t.ok) (a : SAt w p tS t) (v0 : 0 ≤ v) (v1 : v < 4294967296) :
    Calls Tryz.prog 267 #[.pointer (some ⟨p, 0, none⟩), .int .u32 8, .int .u32 v] w fun e w' => e = .returned (.int .i64 0) ∧ SAt w' p tS (t.ask v) ∧ Off (· = p) w w' := by
  have HC := Lib.hid (fun w a => by have := rsCheck t 8 p w h a (by omega) (by omega); rw [sErr_8] at this; exact this)
  obtain ⟨q, hq⟩ : ∃ q, t.qs = q := ⟨_, rfl⟩
  obtain ⟨z, hz⟩ : ∃ z, (v == 45063) = z := ⟨_, rfl⟩
  have HK := Lib.hid (show (⟨t.ca, t.ct, t.la, q || z⟩ : Rs) = t.ask v by unfold Rs.ask; rw [hq, hz])
  cases q
  · cases z
    all_goals
      go_enter Tryz.func267, Tryz.ntmps267
      go_wp2_with fail
      refine (HC.out _ a).mono ?_
      rintro e w1 ⟨rfl, h1⟩
      have A := a.below h1
      have x0 := A.c4
      rw [hq] at x0
      have f0 := A.free 4
      clear hq a HC
      go_wp2_with fail
      go_ret
      refine ⟨rfl, by rw [← HK.out]; exact A.s4 _, (Off.ofBelow (S := (· = p)) h1).trans (off_set w1 p 4 _)⟩
  · go_enter Tryz.func267, Tryz.ntmps267
    go_wp2_with fail
    refine (HC.out _ a).mono ?_
    rintro e w1 ⟨rfl, h1⟩
    have A := a.below h1
    have x0 := A.c4
    rw [hq] at x0
    have f0 := A.free 4
    clear hq a HC
    go_wp2_with fail
    go_ret
    refine ⟨rfl, by rw [← HK.out]; exact A.s4 _, (Off.ofBelow (S := (· = p)) h1).trans (off_set w1 p 4 _)⟩
theorem rsStoreR (t : Rs) (o v : Int) (p : Nat) (w : World) (h : t.ok) (a : SAt w p tS t) (ho : o = 4 ∨ o = 12) :
    Calls Tryz.prog 267 #[.pointer (some ⟨p, 0, none⟩), .int .u32 o, .int .u32 v] w fun e w' => e = .returned (.int .i64 12) ∧ Below w.heap.size w w' := by
  rcases ho with rfl | rfl
  · have HC := Lib.hid (fun w a => by have := rsCheck t 4 p w h a (by omega) (by omega); rw [sErr_4] at this; exact this)
    go_enter Tryz.func267, Tryz.ntmps267
    go_wp2_with fail
    refine (HC.out _ a).mono ?_
    rintro e w1 ⟨rfl, h1⟩
    go_wp2_with fail
    go_ret
    exact ⟨rfl, h1⟩
  · have HC := Lib.hid (fun w a => by have := rsCheck t 12 p w h a (by omega) (by omega); rw [sErr_12] at this; exact this)
    go_enter Tryz.func267, Tryz.ntmps267
    go_wp2_with fail
    refine (HC.out _ a).mono ?_
    rintro e w1 ⟨rfl, h1⟩
    go_wp2_with fail
    go_ret
    exact ⟨rfl, h1⟩
theorem rsStoreE (t : Rs) (o v : Int) (p : Nat) (w : World) (h : t.ok) (a : SAt w p tS t) (o0 : 0 ≤ o) (o1 : o < 4294967296) (he : sErr9 o ≠ 0) :
    Calls Tryz.prog 267 #[.pointer (some ⟨p, 0, none⟩), .int .u32 o, .int .u32 v] w fun e w' => e = .returned (.int .i64 (sErr9 o)) ∧ Below w.heap.size w w' := by
  have HC := Lib.hid (fun w a => rsCheck t o p w h a o0 o1)
  obtain ⟨E, hE⟩ : ∃ E, sErr9 o = E := ⟨_, rfl⟩
  rw [hE] at HC he ⊢
  have q1 : (E != 0) = true := by simpa using he
  clear hE he
  go_enter Tryz.func267, Tryz.ntmps267
  go_wp2_with fail
  refine (HC.out _ a).mono ?_
  rintro e w1 ⟨rfl, h1⟩
  go_wp2_with fail
  go_ret
  exact ⟨rfl, h1⟩
/-- Store, of any offset. -/
theorem rsStore (t : Rs) (o v : Int) (p : Nat) (w : World) (h : t.ok) (a : SAt w p tS t) (o0 : 0 ≤ o) (o1 : o < 4294967296) (v0 : 0 ≤ v) (v1 : v < 4294967296) :
    Calls Tryz.prog 267 #[.pointer (some ⟨p, 0, none⟩), .int .u32 o, .int .u32 v] w fun e w' => e = .returned (.int .i64 (wErr9 o)) ∧ SAt w' p tS (t.sto o v) ∧ Off (· = p) w w' := by
  by_cases he : sErr9 o = 0
  · rcases sErr9_zero o0 he with rfl | rfl | rfl | rfl
    · exact rsStore0 t v p w h a v0 v1
    · refine (rsStoreR t 4 v p w h a (by omega)).mono ?_
      rintro e w1 ⟨rfl, h1⟩
      exact ⟨rfl, a.below h1, Off.ofBelow h1⟩
    · exact rsStore8 t v p w h a v0 v1
    · refine (rsStoreR t 12 v p w h a (by omega)).mono ?_
      rintro e w1 ⟨rfl, h1⟩
      exact ⟨rfl, a.below h1, Off.ofBelow h1⟩
  · have e1 : wErr9 o = sErr9 o := by unfold wErr9; rw [if_pos he]
    have e2 : t.sto o v = t := by
      unfold Rs.sto
      rw [if_neg (fun e => he (by rw [e]; rfl)), if_neg (fun e => he (by rw [e]; rfl))]
    rw [e1, e2]
    refine (rsStoreE t o v p w h a o0 o1 he).mono ?_
    rintro e w1 ⟨rfl, h1⟩
    exact ⟨rfl, a.below h1, Off.ofBelow h1⟩
/-- A cause's word. -/
def wrd (c : Int) : ByteArray := if c = 1 then ⟨#[112, 111, 119, 101, 114]⟩ else if c = 2 then ⟨#[116, 105, 109, 101, 111, 117, 116]⟩ else if c = 4 then ⟨#[101, 97, 114, 108, 121]⟩ else if c = 8 then ⟨#[119, 114, 111, 110, 103]⟩ else if c = 16 then ⟨#[115, 111, 102, 116]⟩ else ⟨#[]⟩
end Go.Proofs.YtcgmnjajodegmaaGreat.B
namespace Go.Proofs.YtcgmnjajodegmaaGreat.B
set_option linter.unusedVariables false
set_option linter.unusedSimpArgs false
open Go.ChangeShapes Go.WideShapes Go.RowKit Go.Sort
structure Pgs (w : World) (bm : Nat) (ks : List Int) (pv : Int → Value) (L : Int → List Su) : Prop where
  map : mapP w ek ok32 bm (ks.map fun u => (u, pv u))
  rows : ∀ u, u ∈ ks → w.ownsRow 0 227 3 (pv u) (L u).length ((L u).flatMap Su.cells)
  nos : ∀ u, u ∉ ks → L u = []
  disj : ∀ u, u ∈ ks → ∀ v, v ∈ ks → u ≠ v → ∀ k, (pv u).ownBlock = some k → (pv v).ownBlock ≠ some k
theorem UBus.pgs {w : World} {p bm : Nat} {rv : Value} {R : List (Int × Int)} {ks : List Int} {pv : Int → Value} {Lp : Int → List Su} (h : UBus w p bm rv R ks pv Lp) : Pgs w bm ks pv Lp := ⟨h.map, h.rows, h.nos, h.disj⟩
section
variable {w w' : World} {bm : Nat} {ks : List Int} {pv : Int → Value} {L : Int → List Su}
theorem Pgs.lt (h : Pgs w bm ks pv L) {u : Int} (hu : u ∈ ks) {k : Nat} (hk : (pv u).ownBlock = some k) : k < w.heap.size := ((h.rows u hu).lt k hk).2
theorem Pgs.nm (h : Pgs w bm ks pv L) {u : Int} (hu : u ∈ ks) {k : Nat} (hk : (pv u).ownBlock = some k) : k ≠ bm := by
  rintro rfl
  obtain ⟨_, _, hb, _⟩ := h.map
  obtain ⟨c, hc⟩ := row_obj (h.rows u hu) hk
  rw [hb] at hc; cases hc
theorem Pgs.rowNm (h : Pgs w bm ks pv L) (u : Int) {k : Nat} (hk : (rowV ks pv u).ownBlock = some k) : k < w.heap.size ∧ k ≠ bm := by
  unfold rowV at hk
  by_cases hu : u ∈ ks
  · rw [if_pos hu] at hk; exact ⟨h.lt hu hk, h.nm hu hk⟩
  · rw [if_neg hu] at hk; cases hk
theorem Pgs.row (h : Pgs w bm ks pv L) (u : Int) : w.ownsRow 0 227 3 (rowV ks pv u) (L u).length ((L u).flatMap Su.cells) := by
  unfold rowV
  by_cases hu : u ∈ ks
  · rw [if_pos hu]; exact h.rows u hu
  · rw [if_neg hu, h.nos u hu]; exact World.ownsRow_nil _ _ _ _
theorem Pgs.kept (h : Pgs w bm ks pv L) (hm : w'.heap[bm]? = w.heap[bm]?) (hk : ∀ u, u ∈ ks → ∀ k, (pv u).ownBlock = some k → w'.heap[k]? = w.heap[k]?) : Pgs w' bm ks pv L :=
  ⟨h.map.kept hm, fun u hu => row_keep (h.rows u hu) (hk u hu), h.nos, h.disj⟩
/-- The pages with a seat more in one of them. -/
def ksOf (ks : List Int) (u : Int) : List Int := u :: ks.filter fun v => decide (v ≠ u)
def pvOf (pv : Int → Value) (u : Int) (v : Value) : Int → Value := fun i => if i = u then v else pv i
def lpOf (L : Int → List Su) (u : Int) (x : Su) : Int → List Su := fun i => if i = u then L i ++ [x] else L i
theorem ks_map (ks : List Int) (pv : Int → Value) (u : Int) (v : Value) : putM u v (ks.map fun i => (i, pv i)) = (ksOf ks u).map fun i => (i, pvOf pv u v i) := by
  unfold putM ksOf pvOf
  rw [List.map_cons, if_pos rfl, List.filter_map]
  congr 1
  refine List.map_congr_left fun i hi => ?_
  have : i ≠ u := by simpa using (List.mem_filter.1 hi).2
  rw [if_neg this]
theorem mem_ksOf {ks : List Int} {u i : Int} : i ∈ ksOf ks u ↔ i = u ∨ i ∈ ks := by
  unfold ksOf
  simp only [List.mem_cons, List.mem_filter, decide_eq_true_eq]
  by_cases e : i = u <;> simp [e]
theorem ksOf_len (ks : List Int) (u : Int) : (ksOf ks u).length ≤ ks.length + 1 := by
  unfold ksOf; simp only [List.length_cons]; have := List.length_filter_le (fun v => decide (v ≠ u)) ks; omega
/-- What has become of the pages behind a seat that is put into one. -/
def StepSo (bm : Nat) (ks : List Int) (pv : Int → Value) (L : Int → List Su) (u : Int) (x : Su) (W w4 : World) : Prop :=
  ∃ v' : Value, Pgs w4 bm (ksOf ks u) (pvOf pv u v') (lpOf L u x) ∧ Off (fun j => j = bm ∨ (rowV ks pv u).ownBlock = some j) W w4 ∧ (v'.ownBlock = (rowV ks pv u).ownBlock ∨ ∃ j, v'.ownBlock = some j ∧ W.heap.size ≤ j)
theorem step_so {W w1 w2 w3 w4 : World} {C : Obj} {u : Int} {x : Su} {v' : Value} (h : Pgs W bm ks pv L) (hw1 : w1 = (W.alloc C).drew) (h12 : Off (· = bm) w1 w2) (h23 : w2.grownBy w3 (rowV ks pv u).ownBlock)
    (hown : w3.ownsRow 0 227 3 v' ((L u).length + 1) ((L u).flatMap Su.cells ++ x.cells)) (hat : v'.ownBlock = (rowV ks pv u).ownBlock ∨ v'.ownBlock = some w2.heap.size)
    (hm : mapP w4 ek ok32 bm (putM u v' (ks.map fun i => (i, pv i)))) (h34 : Off (· = bm) w3 w4) : StepSo bm ks pv L u x W w4 := by
  have ho1 : Off (fun k => k = bm ∨ (rowV ks pv u).ownBlock = some k) W w1 := by subst hw1; exact (Off.ofAlloc W C).trans ⟨rfl, rfl, rfl, Nat.le_refl _, fun _ _ _ => rfl⟩
  have ho2 : Off (fun k => k = bm ∨ (rowV ks pv u).ownBlock = some k) W w2 := ho1.andThen h12 (fun _ _ h => h) (fun _ _ h => .inl h)
  have ho3 : Off (fun k => k = bm ∨ (rowV ks pv u).ownBlock = some k) W w3 := ho2.andThen (T := fun k => (rowV ks pv u).ownBlock = some k) (Off.ofGrown h23 fun k e => e) (fun _ _ h => h) (fun _ _ h => .inr h)
  have ho4 : Off (fun k => k = bm ∨ (rowV ks pv u).ownBlock = some k) W w4 := ho3.andThen h34 (fun _ _ h => h) (fun _ _ h => .inl h)
  have hs2 : W.heap.size ≤ w2.heap.size := ho2.size
  have hvb : ∀ g, v'.ownBlock = some g → g ≠ bm := by
    rintro g hg rfl
    rcases hat with e | e
    · exact (h.rowNm u (e ▸ hg)).2 rfl
    · rw [hg] at e; have := Option.some.inj e; have := h.map.lt; omega
  have hother : ∀ i, i ∈ ks → i ≠ u → ∀ k, (pv i).ownBlock = some k → ¬ (k = bm ∨ (rowV ks pv u).ownBlock = some k) := by
    rintro i hi hiu k hk (e | e)
    · exact h.nm hi hk e
    · unfold rowV at e
      by_cases hu : u ∈ ks
      · rw [if_pos hu] at e; exact h.disj i hi u hu hiu k hk e
      · rw [if_neg hu] at e; cases e
  rw [ks_map] at hm
  refine ⟨v', ⟨hm, fun i hi => ?_, fun i hi => ?_, fun i hi j hj hij k hk => ?_⟩, ho4, ?_⟩
  · by_cases e : i = u
    · subst e
      unfold pvOf lpOf
      rw [if_pos rfl, if_pos rfl, List.length_append, List.flatMap_append]
      simp only [List.length_singleton, List.flatMap_cons, List.flatMap_nil, List.append_nil]
      exact row_keep hown fun g hg => h34.block g (hown.lt g hg).2 (hvb g hg)
    · have hik : i ∈ ks := (mem_ksOf.1 hi).resolve_left e
      unfold pvOf lpOf
      rw [if_neg e, if_neg e]
      exact row_keep (h.rows i hik) fun g hg => ho4.block g (h.lt hik hg) (hother i hik e g hg)
  · have hi' : ¬ (i = u ∨ i ∈ ks) := fun q => hi (mem_ksOf.2 q)
    unfold lpOf
    rw [if_neg fun e => hi' (.inl e)]
    exact h.nos i fun e => hi' (.inr e)
  · have hone : ∀ i, i ∈ ks → i ≠ u → ∀ k, (pv i).ownBlock = some k → v'.ownBlock ≠ some k := by
      intro i hi hiu k hk e
      rcases hat with g | g
      · exact hother i hi hiu k hk (.inr (g ▸ e))
      · rw [e] at g; have := Option.some.inj g; have := h.lt hi hk; omega
    unfold pvOf at hk ⊢
    by_cases ei : i = u
    · rw [if_pos ei] at hk
      have hj' : j ≠ u := fun e => hij (ei.trans e.symm)
      rw [if_neg hj']
      intro e
      exact hone j ((mem_ksOf.1 hj).resolve_left hj') hj' k e hk
    · rw [if_neg ei] at hk
      have hik := (mem_ksOf.1 hi).resolve_left ei
      by_cases ej : j = u
      · rw [if_pos ej]; exact hone i hik ei k hk
      · rw [if_neg ej]; exact h.disj i hik j ((mem_ksOf.1 hj).resolve_left ej) hij k hk
  · exact hat.imp id fun e => ⟨_, e, hs2⟩
end
end Go.Proofs.YtcgmnjajodegmaaGreat.B
namespace Go.Proofs.YtcgmnjajodegmaaGreat.B
set_option linter.unusedVariables false
set_option linter.unusedSimpArgs false
open Go.ChangeShapes Go.WideShapes Go.RowKit Go.Sort Go.MapKept
open Go.ChangeMaps (setBlock modify_eq_set set_perm)
/-! 'm[k] = f(m[k])' in one statement: the entry is found, then laid. -/
section
variable {P : Program} {k : TypeId} {κ : Type} {ek : κ → Value} {ok : κ → Prop} {w : World} {b : Nat} {M : List (κ × Value)}
theorem mapP.entry [DecidableEq κ] (K : KeyE P k ek ok) (KL : WideMaps.KeyLaw P k) {t e : TypeId} (ht : P.underlying t = some (.map k e)) (h : mapP w ek ok b M) (x : κ) (hok : ok x) (hsz : M.length ≤ maxLen) {z : Value} (hz : ∀ u : World, (zeroValue e).run P u = .ok z u) :
    ∃ (v0 : Value) (st : Nat) (w2 : World), (Instr.mapEntry t (.map (some b)) (ek x)).run P w = .ok (.tuple #[v0, .int .i64 st]) w2 ∧ Off (· = b) w w2 ∧ ((x, v0) ∈ M ∨ (∀ p ∈ M, p.1 ≠ x) ∧ v0 = z) ∧
      ∀ (w3 : World) (val : Value), w3.heap[b]? = w2.heap[b]? → ∃ w4, (Instr.entryStore t (.map (some b)) (.int .i64 st) val).run P w3 = .ok () w4 ∧ mapP w4 ek ok b (putM x val M) ∧ Off (· = b) w3 w4 := by
  have hlt := h.lt
  have hup := fun v => h.update K ht x v hok
  obtain ⟨es, clock, hb, hS, h3, h4⟩ := h
  obtain ⟨l, hl⟩ := K.reads x hok
  have hlen : es.size = M.length := by have := h3.length_eq; simpa using this
  have F : WideElems.Fit (H := Unit) P k (fun _ => some (.nil, [])) es clock := ⟨by omega, hS, fun e he => by
    obtain ⟨l', hl'⟩ := es_reads K h3 h4 e he
    unfold WideElems.rd
    rw [hl']
    exact ⟨_, rfl⟩⟩
  obtain ⟨v0, st, es1, clock1, hrun, hv, hst⟩ := WideElems.entry_then_store KL ht hz hb F hl
  refine ⟨v0, st, _, hrun, off_setBlock w b _ rfl, ?_, fun w3 val hw3 => ?_⟩
  · rcases hv with ⟨e0, he0, hk0, rfl⟩ | ⟨hno, rfl⟩
    · left
      have : (e0.key, e0.val) ∈ M.map fun p => (ek p.1, p.2) := h3.mem_iff.1 (List.mem_map.2 ⟨e0, he0, rfl⟩)
      obtain ⟨p, hp, hq⟩ := List.mem_map.1 this
      have h1 := K.inj _ _ ((Prod.mk.inj hq).1.trans hk0)
      have h2 := (Prod.mk.inj hq).2
      rw [← h1, ← h2]; exact hp
    · right
      refine ⟨fun p hp e1 => ?_, rfl⟩
      have : (ek p.1, p.2) ∈ es.toList.map fun e => (e.key, e.val) := h3.mem_iff.2 (List.mem_map.2 ⟨p, hp, rfl⟩)
      obtain ⟨e2, he2, hq⟩ := List.mem_map.1 this
      exact hno e2 he2 (by rw [← e1]; exact (Prod.mk.inj hq).1)
  · rw [setBlock_self w b _ hlt] at hw3
    obtain ⟨es', clock', hr1, hr2⟩ := hst w3 val hw3
    obtain ⟨es2, clock2, hr3, hm⟩ := hup val
    rw [hr2] at hr3
    have he : (setBlock w b (.map es' clock')).heap[b]? = (setBlock w b (.map es2 clock2)).heap[b]? := by
      have := hr3
      simp only [Result.ok.injEq, true_and] at this
      rw [this]
    rw [setBlock_self w b _ hlt, setBlock_self w b _ hlt] at he
    refine ⟨_, hr1, hm.kept ?_, off_setBlock w3 b _ rfl⟩
    rw [setBlock_self w3 b _ (lt_of_block hw3), setBlock_self w b _ hlt]
    exact he
end
/-- append to a slice of the call's own, as one step of a region that draws. -/
theorem step_append_own {P : Program} {ops : Array Oper} {o : Oper} {a : Act} {w : World} {K : Act → World → Prop} {Q : Exit → Act → World → Prop} {E : Prop}
    (hg : o.guard = none) (s x : Operand) (t : TypeId) (hop : o.op = Op.call { callee := Callee.builtin Builtin.append, args := #[s, x], argTypes := #[t, t] })
    (base : Nat) (e : TypeId) (i : TypeInfo) (z : Value) (size bytes : Nat) (ht : P.underlying t = some (.slice e)) (hi : P.info? e = some i) (hz : i.zero = some z)
    (hsize : i.size = size) (hby : i.bytes = bytes) (hzs : z.cells.size = size) (hsz : 0 < size)
    (v : Value) (n : Nat) (xs : List Value) (hs : a.eval s = v) (hown : w.ownsRow base e size v n xs)
    (ad : Addr) (m c : Nat) (news : List Value) (hx : a.eval x = .slice (some ad) m c) (hl : news.length = m * size) (hnews : ∀ j u, news[j]? = some u → w.cell? (ad.add j) = some u) (h1 : ∀ u ∈ news, u.oneCell' = true)
    (h63 : n + m ≤ maxLen) (hbytes : (n + m) * bytes ≤ 140737488355328) (hbase : base ≤ w.heap.size)
    (hK : ∀ v' w', w'.ownsRow base e size v' (n + m) (xs ++ news) → w.grownBy w' v.ownBlock → (v' = .slice none 0 0 ↔ v = .slice none 0 0 ∧ m = 0) → (v'.ownBlock = v.ownBlock ∨ v'.ownBlock = some w.heap.size) → K (a.put o.dst v') w') :
    if Region.wanted o (yielded ops a.tmps) = true then Oper.wp P o a w K Q else E := by
  have hw : Region.wanted o (yielded ops a.tmps) = true := by simp [Region.wanted, hg]
  rw [if_pos hw]
  obtain ⟨v', w', hr, h2, h3, h4, h5⟩ := run_append_own_at (P := P) w base t o.type e i z size bytes ht hi hz hsize hby hzs hsz v n xs hown ad m c news hl hnews h1 h63 hbytes hbase
  unfold Oper.wp execOp
  simp only [hop, resolve, invoke, builtin, Sem.run_bind, Sem.run_pure, Result.andThen_ok, List.map_toArray, List.map_cons, List.map_nil, hs, hx, hr]
  exact hK _ _ h2 h3 h4 h5
end Go.Proofs.YtcgmnjajodegmaaGreat.B
