/- Layer 8: Tick, Reset, Copy of a Wdog. -/
import Derived.Test.YtlgdlmhgifhchaaWdog2
namespace Go.Proofs.Ytlgdlmhgifhchaa.B
set_option linter.unusedVariables false
set_option linter.unusedSimpArgs false
open Go.ChangeShapes Go.WideShapes Go.RowKit Go.Sort
theorem tick_end {t : Wd} {n : Int} (hen : t.en = true) (hf : t.fa = 0) (h : t.tot ≤ t.si + n) : t.tick n = { t with si := t.tot, fa := 2 } := by unfold Wd.tick; rw [if_pos ⟨hen, hf⟩, if_pos h]
theorem tick_on {t : Wd} {n : Int} (hen : t.en = true) (hf : t.fa = 0) (h : ¬ t.tot ≤ t.si + n) : t.tick n = { t with si := t.si + n } := by unfold Wd.tick; rw [if_pos ⟨hen, hf⟩, if_neg h]
theorem ran_end {t : Wd} {n : Int} (hen : t.en = true) (hf : t.fa = 0) (h : t.tot ≤ t.si + n) : t.ran n = t.tot - t.si := by unfold Wd.ran; rw [if_neg (by simp [hf]), if_pos hen, if_pos h]
theorem ran_on {t : Wd} {n : Int} (hen : t.en = true) (hf : t.fa = 0) (h : ¬ t.tot ≤ t.si + n) : t.ran n = n := by unfold Wd.ran; rw [if_neg (by simp [hf]), if_pos hen, if_neg h]
/-- Left at a count that may have come to its end (ahead of the fault's being laid). -/
theorem dLeft0 (t : Wd) (p : Nat) (w : World) (hen : t.en = true) (hf : t.fa = 0) (s0 : 0 ≤ t.si) (s1 : t.si ≤ t.tot) (t1 : t.tot < 4294967296) (a : DAt w p t) :
    Calls Try.prog 16 #[.pointer (some ⟨p, 0, none⟩)] w fun e w' => e = .returned (.int .u64 (t.tot - t.si)) ∧ Below w.heap.size w w' := by
  have x0 := a.c0
  have x1 := a.c1
  have x2 := a.c2
  have hr := dRuns t w
  rw [decide_eq_true (show t.en = true ∧ t.fa = 0 from ⟨hen, hf⟩)] at hr
  have hr := Lib.hid hr
  clear hen hf
  go_enter Try.func16, Try.ntmps16
  go_wp2_with fail
  refine (hr.out).mono ?_
  rintro e w1 ⟨rfl, hb⟩
  have a1 := a.below hb
  clear hr x0 x1 x2 a
  have x4 := a1.c4
  have x5 := a1.c5
  go_wp2_with fail
  have hg := gcell
  have hl := a1.lt
  refine wp_region_quiet_below (by kernel_rfl) (by kernel_rfl) ?_
  repeat (go_big_quiet_step (fail))
  refine wpQuiet_nil ?_
  intro _ hw'
  obtain ⟨⟨dq, osq⟩, hw''⟩ := hw'
  subst hw''
  go_wp2_with fail
  go_ret
  exact ⟨rfl, trG hb _ _⟩
set_option maxHeartbeats 1600000 in
theorem dTick (t : Wd) (n : Int) (p : Nat) (w : World) (h : t.ok) (a : DAt w p t) (n0 : 0 ≤ n) (n1 : n < 18446744073709551616) :
    Calls Try.prog 13 #[.pointer (some ⟨p, 0, none⟩), .int .u64 n] w fun e w' => e = .returned (.int .u64 (t.ran n)) ∧ DAt w' p (t.tick n) ∧ Off (· = p) w w' := by
  have F := Lib.hid (fun w a => dFault t p w a)
  have E := Lib.hid (fun w a => dEnabled t p w a)
  by_cases hf : t.fa = 0
  · have qf : (t.fa != 0) = false := by simp [hf]
    obtain ⟨en, hen⟩ : ∃ b, t.en = b := ⟨_, rfl⟩
    rw [hen] at E
    cases en
    · have e1 : t.tick n = t := by unfold Wd.tick; rw [if_neg (by rw [hen]; simp)]
      have e2 : t.ran n = n := by unfold Wd.ran; rw [if_neg (by simp [hf]), if_neg (by rw [hen]; simp)]
      rw [e1, e2]
      go_enter Try.func13, Try.ntmps13
      go_wp2_with fail
      refine (F.out _ a).mono ?_
      rintro e w' ⟨rfl, rfl⟩
      go_wp2_with fail
      refine (E.out _ a).mono ?_
      rintro e w' ⟨rfl, rfl⟩
      go_wp2_with fail
      go_ret
      exact ⟨rfl, a, Off.refl _ _⟩
    · have hlt := h.run hen hf
      have s0 := h.s0
      have t1 := h.t1
      obtain ⟨R, hR⟩ : ∃ R, t.tick n = R := ⟨_, rfl⟩
      obtain ⟨V, hV⟩ : ∃ V, t.ran n = V := ⟨_, rfl⟩
      rw [hR, hV]
      have HR := Lib.hid hR
      have HV := Lib.hid hV
      have L := Lib.hid (fun w a => dLeft0 t p w hen hf s0 (by omega) t1 a)
      clear hR hV h
      by_cases hge : t.tot ≤ t.si + n
      · have hv : V = t.tot - t.si := by rw [← HV.out, ran_end hen hf hge]
        have hr : R = { t with si := t.tot, fa := 2 } := by rw [← HR.out, tick_end hen hf hge]
        have hm : min n (t.tot - t.si) = t.tot - t.si := by omega
        have hs : t.si + (t.tot - t.si) = t.tot := by omega
        have L2 := Lib.hid (fun w a => by have := dLeft0 { t with si := t.tot } p w hen hf (by show 0 ≤ t.tot; omega) (Int.le_refl _) t1 a; rw [show t.tot - t.tot = 0 by omega] at this; exact this)
        rw [hv, hr]
        clear hv hr HR HV hen hf
        have hn : n = t.tot - t.si ∨ ¬ n ≤ t.tot - t.si := by omega
        rcases hn with rfl | hn
        all_goals
          go_enter Try.func13, Try.ntmps13
          go_wp2_with fail
          refine (F.out _ a).mono ?_
          rintro e w' ⟨rfl, rfl⟩
          go_wp2_with fail
          refine (E.out _ a).mono ?_
          rintro e w' ⟨rfl, rfl⟩
          go_wp2_with fail
          refine (L.out _ a).mono ?_
          rintro e w1 ⟨rfl, hb⟩
          have A := a.below hb
          have ho := Off.ofBelow (S := (· = p)) hb
          have x5 := A.c5
          have f5 := A.free 5
          clear a hb L F E
          go_wp2_with fail
          have A1 := A.s5 t.tot
          have ho1 := ho.trans (off_set w1 p 5 (.int .u64 t.tot))
          clear A ho x5 f5
          generalize w1.setCell ⟨p, 5, none⟩ (.int .u64 t.tot) = W1 at *
          refine (L2.out _ A1).mono ?_
          rintro e w2 ⟨rfl, hb⟩
          have A := A1.below hb
          have ho := ho1.trans (Off.ofBelow (S := (· = p)) hb)
          clear A1 hb L2 ho1
          have x2 := A.c2
          have f2 := A.free 2
          go_wp2_with fail
          go_ret
          exact ⟨rfl, A.s2 2, ho.trans (off_set _ _ _ _)⟩
      · have hv : V = n := by rw [← HV.out, ran_on hen hf hge]
        have hr : R = { t with si := t.si + n } := by rw [← HR.out, tick_on hen hf hge]
        have hm : min n (t.tot - t.si) = n := by omega
        have L2 := Lib.hid (fun w a => dLeft0 { t with si := t.si + n } p w hen hf (by show 0 ≤ t.si + n; omega) (by show t.si + n ≤ t.tot; omega) t1 a)
        have hq : (t.tot - (t.si + n) == 0) = false := by simp; omega
        rw [hv, hr]
        clear hv hr HR HV hen hf
        go_enter Try.func13, Try.ntmps13
        go_wp2_with fail
        refine (F.out _ a).mono ?_
        rintro e w' ⟨rfl, rfl⟩
        go_wp2_with fail
        refine (E.out _ a).mono ?_
        rintro e w' ⟨rfl, rfl⟩
        go_wp2_with fail
        refine (L.out _ a).mono ?_
        rintro e w1 ⟨rfl, hb⟩
        have A := a.below hb
        have ho := Off.ofBelow (S := (· = p)) hb
        have x5 := A.c5
        have f5 := A.free 5
        clear a hb L F E
        go_wp2_with fail
        have A1 := A.s5 (t.si + n)
        have ho1 := ho.trans (off_set w1 p 5 (.int .u64 (t.si + n)))
        clear A ho x5 f5
        generalize w1.setCell ⟨p, 5, none⟩ (.int .u64 (t.si + n)) = W1 at *
        refine (L2.out _ A1).mono ?_
        rintro e w2 ⟨rfl, hb⟩
        have A := A1.below hb
        have ho := ho1.trans (Off.ofBelow (S := (· = p)) hb)
        clear A1 hb L2 ho1
        have x2 := A.c2
        have f2 := A.free 2
        go_wp2_with fail
        go_ret
        exact ⟨rfl, A, ho⟩
  · have qf : (t.fa != 0) = true := by simp [hf]
    have e1 : t.tick n = t := by unfold Wd.tick; rw [if_neg (fun e => hf e.2)]
    have e2 : t.ran n = 0 := by unfold Wd.ran; rw [if_pos hf]
    rw [e1, e2]
    go_enter Try.func13, Try.ntmps13
    go_wp2_with fail
    refine (F.out _ a).mono ?_
    rintro e w' ⟨rfl, rfl⟩
    go_wp2_with fail
    go_ret
    exact ⟨rfl, a, Off.refl _ _⟩
theorem dTickNil (n : Int) (w : World) : Calls Try.prog 13 #[.pointer none, .int .u64 n] w fun e w' => e = .returned (.int .u64 n) ∧ w = w' := by
  go_enter Try.func13, Try.ntmps13
  go_wp2_with fail
  refine (dFaultNil _).mono ?_
  rintro e w' ⟨rfl, rfl⟩
  go_wp2_with fail
  refine (dEnabledNil _).mono ?_
  rintro e w' ⟨rfl, rfl⟩
  go_wp2_with fail
  go_ret
  exact ⟨rfl, rfl⟩
theorem iD : (Try.prog.info? 52).map (·.size) = some 7 := by kernel_rfl
theorem dl_one (t : Wd) : ∀ x ∈ dl t, x.oneCell' = true := by
  intro x h
  simp only [dl, List.mem_cons, List.not_mem_nil, or_false] at h
  rcases h with rfl | rfl | rfl | rfl | rfl | rfl | rfl <;> rfl
theorem DAt.row {old : Array Value} {w : World} {b : Nat} (h : w.heap[b]? = some (.cells old tD (0, 0))) (t : Wd) : DAt (w.setRow b (dl t).toArray) b t := row_set _ h
section
variable {ops : Array Oper} {rest : List Oper} {o : Oper} {a : Act} {w : World} {Q : Exit → Act → World → Prop}
theorem loadD (hgd : o.guard = none) (x : Operand) (ho : o.op = .load 52 x) {b : Nat} (hx : a.eval x = .pointer (some ⟨b, 0, none⟩)) {t : Wd} (hg : DAt w b t)
    (h : wpList Try.prog ops Q rest (a.put o.dst (.agg (dl t).toArray)) w) : wpList Try.prog ops Q (o :: rest) a w :=
  wpList_load_part hgd _ x ho b 0 hx _ (dl t) hg Try.underlying52 rfl iD (part_all _) h
theorem storeD (hgd : o.guard = none) (x y : Operand) (ho : o.op = .store 52 x y) {b : Nat} (hx : a.eval x = .pointer (some ⟨b, 0, none⟩)) {t : Wd} (hy : a.eval y = .agg (dl t).toArray) {t' : Wd} (hg : DAt w b t')
    (h : wpList Try.prog ops Q rest (a.put o.dst undef) (w.setRow b (dl t).toArray)) : wpList Try.prog ops Q (o :: rest) a w := by
  refine wpList_store_part hgd _ x y ho b 0 hx (dl t) hy hg iD (by simp [dl]) (dl_one _) ?_
  rw [spliced_all _ _ (by simp [dl])]
  exact h
end
theorem dReset (t : Wd) (p : Nat) (w : World) (a : DAt w p t) :
    Calls Try.prog 21 #[.pointer (some ⟨p, 0, none⟩)] w fun e w' => e = .returned (.tuple #[]) ∧ DAt w' p wz ∧ Off (· = p) w w' := by
  go_enter Try.func21, Try.ntmps21
  go_wp2_with (refine storeD rfl (.tmp 6) (.tmp 5) rfl rfl (t := wz) rfl a ?_)
  go_end0
  exact ⟨rfl, DAt.row a wz, off_row _ _ _⟩
theorem dResetNil (w : World) : Calls Try.prog 21 #[.pointer none] w fun e w' => e = .returned (.tuple #[]) ∧ w = w' := by
  go_enter Try.func21, Try.ntmps21
  go_wp2_with fail
  refine bodyPost_ret (v := .tuple #[]) ?_ rfl ⟨rfl, rfl⟩
  simp [results, Try.results21, go_sem]
theorem dCopy (t : Wd) (p : Nat) (w : World) (a : DAt w p t) :
    Calls Try.prog 12 #[.pointer (some ⟨p, 0, none⟩)] w fun e w' => e = .returned (.pointer (some ⟨w.heap.size, 0, none⟩)) ∧ DAt w' w.heap.size t ∧ Below w.heap.size w w' := by
  have ha := a.lt
  have hb := trA (tr0 w) (.cells (dl wz).toArray tD (0, 0))
  have Y : DAt (w.alloc (.cells (dl wz).toArray tD (0, 0))) w.heap.size wz := blk_new w _
  have Z := DAt.row Y t
  have hB := below_setRow hb (dl t).toArray (g := w.heap.size) (Nat.le_refl _)
  go_enter Try.func12, Try.ntmps12
  go_wp2_with (first | (refine loadD rfl (.tmp 7) rfl rfl a ?_) | (refine storeD rfl (.tmp 3) (.tmp 8) rfl rfl (t := t) rfl Y ?_))
  go_ret
  exact ⟨rfl, Z, hB⟩
theorem dCopyNil (w : World) : Calls Try.prog 12 #[.pointer none] w fun e w' => e = .returned (.pointer none) ∧ w = w' := by
  go_enter Try.func12, Try.ntmps12
  go_wp2_with fail
  go_ret
  exact ⟨rfl, rfl⟩
end Go.Proofs.Ytlgdlmhgifhchaa.B
