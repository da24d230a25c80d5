/- slices.Sort at uint32: siftDown, heapSort. -/
import Derived.Test.YtafegmmcgghgaaaSrt
namespace Go.Proofs.Ytafegmmcgghgaaa.B
set_option linter.unusedVariables false
set_option linter.unusedSimpArgs false
open Go.ChangeShapes Go.WideShapes Go.RowKit Go.Sort
section
variable {hi first r : Nat} {d : Array Int}
theorem sd_stop (h : hi ≤ 2 * r + 1) : siftDown ltU hi first r d = d := by rw [siftDown.eq_def, dif_pos h]
theorem sd_no2 {pr pc pc1 : Nat} (h : 2 * r + 1 < hi) (h2 : 2 * r + 1 + 1 < hi) (e0 : pr = first + r) (e1 : pc = first + (2 * r + 1)) (e2 : pc1 = pc + 1) (hq : ltU d[pc]! d[pc1]! = true) (hn : ltU d[pr]! d[pc1]! = false) : siftDown ltU hi first r d = d := by
  subst e0 e1 e2
  rw [siftDown.eq_def, dif_neg (by omega), if_pos (by rw [decide_eq_true h2, hq]; rfl), if_pos (by rw [show first + (2 * r + 2) = first + (2 * r + 1) + 1 by omega, hn]; rfl)]
theorem sd_go2 {pr pc pc1 ch1 : Nat} (h : 2 * r + 1 < hi) (h2 : 2 * r + 1 + 1 < hi) (e0 : pr = first + r) (e1 : pc = first + (2 * r + 1)) (e2 : pc1 = pc + 1) (e3 : ch1 = 2 * r + 2) (hq : ltU d[pc]! d[pc1]! = true) (hn : ltU d[pr]! d[pc1]! = true) :
    siftDown ltU hi first r d = siftDown ltU hi first ch1 (swp d pr pc1) := by
  subst e0 e1 e2 e3
  conv => lhs; rw [siftDown.eq_def]
  rw [dif_neg (by omega), if_pos (by rw [decide_eq_true h2, hq]; rfl), if_neg (by rw [show first + (2 * r + 2) = first + (2 * r + 1) + 1 by omega, hn]; simp), dif_pos (by omega)]
  rfl
theorem sd_no1 {pr pc pc1 : Nat} (h : 2 * r + 1 < hi) (e0 : pr = first + r) (e1 : pc = first + (2 * r + 1)) (e2 : pc1 = pc + 1) (hq : (decide (2 * r + 1 + 1 < hi) && ltU d[pc]! d[pc1]!) = false) (hn : ltU d[pr]! d[pc]! = false) : siftDown ltU hi first r d = d := by
  subst e0 e1 e2
  rw [siftDown.eq_def, dif_neg (by omega), if_neg (by rw [hq]; simp), if_pos (by rw [hn]; rfl)]
theorem sd_go1 {pr pc pc1 ch : Nat} (h : 2 * r + 1 < hi) (e0 : pr = first + r) (e1 : pc = first + (2 * r + 1)) (e2 : pc1 = pc + 1) (e3 : ch = 2 * r + 1) (hq : (decide (2 * r + 1 + 1 < hi) && ltU d[pc]! d[pc1]!) = false) (hn : ltU d[pr]! d[pc]! = true) :
    siftDown ltU hi first r d = siftDown ltU hi first ch (swp d pr pc) := by
  subst e0 e1 e2 e3
  conv => lhs; rw [siftDown.eq_def]
  rw [dif_neg (by omega), if_neg (by rw [hq]; simp), if_neg (by rw [hn]; simp)]
end
set_option maxRecDepth 100000 in
set_option maxHeartbeats 6400000 in
theorem sSift (g n cap lo hi first : Nat) (d : Array Int) (w : World) (h : DAt w g d) (hb : first + hi ≤ d.size) (hn : d.size = n) (hc : n ≤ cap) (hm : cap ≤ 9223372036854775807) (hm2 : n < 1152921504606846976) (hlo : lo < 1152921504606846976) :
    Calls Try.prog 95 #[.slice (some ⟨g, 0, none⟩) n cap, .int .i64 lo, .int .i64 hi, .int .i64 first] w
      fun e w' => e = .returned (.tuple #[]) ∧ DAt w' g (siftDown ltU hi first lo d) ∧ Off (· = g) w w' := by
  subst hn
  go_enter Try.func95, Try.ntmps95
  go_wp2_with fail
  go_loopw [8] (fun i wr => ∃ (r : Nat) (d' : Array Int), r < 1152921504606846976 ∧ i = .int .i64 r ∧ DAt wr g d' ∧ d'.size = d.size ∧ siftDown ltU hi first r d' = siftDown ltU hi first lo d ∧ Off (· = g) w wr) (fun i _ => (hi - intOf i).toNat)
  case atStart => exact ⟨lo, d, hlo, rfl, h, rfl, rfl, Off.refl _ _⟩
  case round =>
    clear h
    obtain ⟨r, d', hr, rfl, hD, hs, hR, ho⟩ := hrel
    have HE := Lib.hid hD
    have HO := Lib.hid ho
    have HR := Lib.hid hR
    clear hD ho hR
    obtain ⟨ch, e1⟩ : ∃ ch : Nat, 2 * (r : Int) + 1 = (ch : Int) := ⟨2 * r + 1, by omega⟩
    obtain ⟨ch1, e2⟩ : ∃ ch1 : Nat, (ch : Int) + 1 = (ch1 : Int) := ⟨ch + 1, by omega⟩
    obtain ⟨pr, e3⟩ : ∃ pr : Nat, (first : Int) + (r : Int) = (pr : Int) := ⟨first + r, by omega⟩
    obtain ⟨pc, e4⟩ : ∃ pc : Nat, (first : Int) + (ch : Int) = (pc : Int) := ⟨first + ch, by omega⟩
    obtain ⟨pc1, e5⟩ : ∃ pc1 : Nat, (pc : Int) + 1 = (pc1 : Int) := ⟨pc + 1, by omega⟩
    have e6 : (first : Int) + (ch1 : Int) = (pc1 : Int) := by omega
    by_cases hlt : ch < hi
    · have hg := gcell
      have hl0 := HE.out.lt
      have c1 := HE.out.c pr (by omega)
      have c2 := HE.out.c pc (by omega)
      by_cases hlt1 : ch1 < hi
      · have c3 := HE.out.c pc1 (by omega)
        have q0 : decide ((ch1 : Int) < (hi : Int)) = true := decide_eq_true (by omega)
        cases hq : ltU d'[pc]! d'[pc1]!
        · have CL := Lib.hid (fun w' => sLessB _ _ _ hq w')
          have HQ := Lib.hid hq
          clear hq
          go_wp2_with fail
          refine wp_region_quiet_below (by kernel_rfl) (by kernel_rfl) ?_
          repeat (go_big_quiet_step (first | (go_at_call 82; exact Calls.regrown_of (CL.out _))))
          refine wpQuiet_nil ?_
          intro _ hw'
          obtain ⟨⟨dq, osq⟩, hw''⟩ := hw'
          subst hw''
          have hb1 := below_regrown wr dq osq
          have E1 := HE.out.below hb1
          have ho1 := HO.out.trans (Off.ofBelow hb1)
          have hl1 := E1.lt
          clear hb1 c1 c2 c3 hl0
          generalize grow (redrawn wr dq) osq = W1 at *
          have c1 := E1.c pr (by omega)
          have c2 := E1.c pc (by omega)
          have f1 := E1.f pr (by omega)
          have f2 := E1.f pc (by omega)
          have HE1 := Lib.hid E1
          have HO1 := Lib.hid ho1
          clear E1 ho1
          cases hq2 : ltU d'[pr]! d'[pc]!
          · have CL2 := Lib.hid (fun w' => sLessB _ _ _ hq2 w')
            have HX := Lib.hid (show siftDown ltU hi first r d' = d' from sd_no1 (by omega) (by omega) (by omega) (pc1 := pc1) (by omega) (by rw [HQ.out, Bool.and_false]) hq2)
            clear hq2
            go_wp2_with fail
            refine wp_region_quiet_below (by kernel_rfl) (by kernel_rfl) ?_
            repeat (go_big_quiet_step (first | (go_at_call 82; exact Calls.regrown_of (CL2.out _))))
            refine wpQuiet_nil ?_
            intro _ hw'
            obtain ⟨⟨dq, osq⟩, hw''⟩ := hw'
            subst hw''
            have hb2 := below_regrown W1 dq osq
            have E2 := Lib.hid (HE1.out.below hb2)
            have O2 := Lib.hid (HO1.out.trans (Off.ofBelow hb2))
            clear hb2
            go_wp2_with fail
            refine bodyPost_ret (v := .tuple #[]) ?_ rfl ⟨rfl, by rw [← HR.out, HX.out]; exact E2.out, O2.out⟩
            simp [results, Try.results95, go_sem]
          · have CL2 := Lib.hid (fun w' => sLessB _ _ _ hq2 w')
            have HX := Lib.hid (show siftDown ltU hi first r d' = siftDown ltU hi first ch (swp d' pr pc) from sd_go1 (by omega) (by omega) (by omega) (pc1 := pc1) (by omega) (by omega) (by rw [HQ.out, Bool.and_false]) hq2)
            clear hq2
            go_wp2_with fail
            refine wp_region_quiet_below (by kernel_rfl) (by kernel_rfl) ?_
            repeat (go_big_quiet_step (first | (go_at_call 82; exact Calls.regrown_of (CL2.out _))))
            refine wpQuiet_nil ?_
            intro _ hw'
            obtain ⟨⟨dq, osq⟩, hw''⟩ := hw'
            subst hw''
            have hb2 := below_regrown W1 dq osq
            have E2 := HE1.out.below hb2
            have ho2 := HO1.out.trans (Off.ofBelow hb2)
            clear hb2 c1 c2 f1 f2 hl1
            generalize grow (redrawn W1 dq) osq = W2 at *
            have c1 := E2.c pr (by omega)
            have c2 := E2.c pc (by omega)
            have f1 := E2.f pr (by omega)
            have f2 := E2.f pc (by omega)
            have E3 := Lib.hid ((E2.swap pr pc (by omega) (by omega)).kept (w' := ((W2.setCell ⟨g, pr, none⟩ (.int .u32 d'[pc]!)).setCell ⟨g, pc, none⟩ (.int .u32 d'[pr]!)).drew) rfl (Nat.le_refl _))
            have O3 := Lib.hid ((ho2.trans (off_swap W2 g pr pc (.int .u32 d'[pc]!) (.int .u32 d'[pr]!))).trans (off_drew _))
            have HR2 := Lib.hid (HX.out.symm.trans HR.out)
            clear E2 ho2 hg
            go_wp2_with fail
            go_region
            go_wp2_with fail
            go_roundw
            case rel => exact ⟨ch, swp d' pr pc, by omega, rfl, E3.out, by rw [swp_size]; exact hs, HR2.out, O3.out⟩
            case measure => simp [intOf]; omega
        · have CL := Lib.hid (fun w' => sLessB _ _ _ hq w')
          have HQ := Lib.hid hq
          clear hq
          go_wp2_with fail
          refine wp_region_quiet_below (by kernel_rfl) (by kernel_rfl) ?_
          repeat (go_big_quiet_step (first | (go_at_call 82; exact Calls.regrown_of (CL.out _))))
          refine wpQuiet_nil ?_
          intro _ hw'
          obtain ⟨⟨dq, osq⟩, hw''⟩ := hw'
          subst hw''
          have hb1 := below_regrown wr dq osq
          have E1 := HE.out.below hb1
          have ho1 := HO.out.trans (Off.ofBelow hb1)
          have hl1 := E1.lt
          clear hb1 c1 c2 c3 hl0
          generalize grow (redrawn wr dq) osq = W1 at *
          have c1 := E1.c pr (by omega)
          have c2 := E1.c pc1 (by omega)
          have f1 := E1.f pr (by omega)
          have f2 := E1.f pc1 (by omega)
          have HE1 := Lib.hid E1
          have HO1 := Lib.hid ho1
          clear E1 ho1
          cases hq2 : ltU d'[pr]! d'[pc1]!
          · have CL2 := Lib.hid (fun w' => sLessB _ _ _ hq2 w')
            have HX := Lib.hid (show siftDown ltU hi first r d' = d' from sd_no2 (by omega) (by omega) (by omega) (pc := pc) (by omega) (by omega) HQ.out hq2)
            clear hq2
            go_wp2_with fail
            refine wp_region_quiet_below (by kernel_rfl) (by kernel_rfl) ?_
            repeat (go_big_quiet_step (first | (go_at_call 82; exact Calls.regrown_of (CL2.out _))))
            refine wpQuiet_nil ?_
            intro _ hw'
            obtain ⟨⟨dq, osq⟩, hw''⟩ := hw'
            subst hw''
            have hb2 := below_regrown W1 dq osq
            have E2 := Lib.hid (HE1.out.below hb2)
            have O2 := Lib.hid (HO1.out.trans (Off.ofBelow hb2))
            clear hb2
            go_wp2_with fail
            refine bodyPost_ret (v := .tuple #[]) ?_ rfl ⟨rfl, by rw [← HR.out, HX.out]; exact E2.out, O2.out⟩
            simp [results, Try.results95, go_sem]
          · have CL2 := Lib.hid (fun w' => sLessB _ _ _ hq2 w')
            have HX := Lib.hid (show siftDown ltU hi first r d' = siftDown ltU hi first ch1 (swp d' pr pc1) from sd_go2 (by omega) (by omega) (by omega) (pc := pc) (by omega) (by omega) (by omega) HQ.out hq2)
            clear hq2
            go_wp2_with fail
            refine wp_region_quiet_below (by kernel_rfl) (by kernel_rfl) ?_
            repeat (go_big_quiet_step (first | (go_at_call 82; exact Calls.regrown_of (CL2.out _))))
            refine wpQuiet_nil ?_
            intro _ hw'
            obtain ⟨⟨dq, osq⟩, hw''⟩ := hw'
            subst hw''
            have hb2 := below_regrown W1 dq osq
            have E2 := HE1.out.below hb2
            have ho2 := HO1.out.trans (Off.ofBelow hb2)
            clear hb2 c1 c2 f1 f2 hl1
            generalize grow (redrawn W1 dq) osq = W2 at *
            have c1 := E2.c pr (by omega)
            have c2 := E2.c pc1 (by omega)
            have f1 := E2.f pr (by omega)
            have f2 := E2.f pc1 (by omega)
            have E3 := Lib.hid ((E2.swap pr pc1 (by omega) (by omega)).kept (w' := ((W2.setCell ⟨g, pr, none⟩ (.int .u32 d'[pc1]!)).setCell ⟨g, pc1, none⟩ (.int .u32 d'[pr]!)).drew) rfl (Nat.le_refl _))
            have O3 := Lib.hid ((ho2.trans (off_swap W2 g pr pc1 (.int .u32 d'[pc1]!) (.int .u32 d'[pr]!))).trans (off_drew _))
            have HR2 := Lib.hid (HX.out.symm.trans HR.out)
            clear E2 ho2 hg
            go_wp2_with fail
            go_region
            go_wp2_with fail
            go_roundw
            case rel => exact ⟨ch1, swp d' pr pc1, by omega, rfl, E3.out, by rw [swp_size]; exact hs, HR2.out, O3.out⟩
            case measure => simp [intOf]; omega
      · have q0 : decide ((ch1 : Int) < (hi : Int)) = false := decide_eq_false (by omega)
        have HQ := Lib.hid (show (decide (2 * r + 1 + 1 < hi) && ltU d'[pc]! d'[pc1]!) = false by rw [decide_eq_false (by omega), Bool.false_and])
        have c3 : True := trivial
        go_wp2_with fail
        refine wp_region_quiet_below (by kernel_rfl) (by kernel_rfl) ?_
        repeat (go_big_quiet_step (fail))
        refine wpQuiet_nil ?_
        intro _ hw'
        obtain ⟨⟨dq, osq⟩, hw''⟩ := hw'
        subst hw''
        have hb1 := below_regrown wr dq osq
        have E1 := HE.out.below hb1
        have ho1 := HO.out.trans (Off.ofBelow hb1)
        have hl1 := E1.lt
        clear hb1 c1 c2 c3 hl0
        generalize grow (redrawn wr dq) osq = W1 at *
        have c1 := E1.c pr (by omega)
        have c2 := E1.c pc (by omega)
        have f1 := E1.f pr (by omega)
        have f2 := E1.f pc (by omega)
        have HE1 := Lib.hid E1
        have HO1 := Lib.hid ho1
        clear E1 ho1
        cases hq2 : ltU d'[pr]! d'[pc]!
        · have CL2 := Lib.hid (fun w' => sLessB _ _ _ hq2 w')
          have HX := Lib.hid (show siftDown ltU hi first r d' = d' from sd_no1 (by omega) (by omega) (by omega) (pc1 := pc1) (by omega) HQ.out hq2)
          clear hq2
          go_wp2_with fail
          refine wp_region_quiet_below (by kernel_rfl) (by kernel_rfl) ?_
          repeat (go_big_quiet_step (first | (go_at_call 82; exact Calls.regrown_of (CL2.out _))))
          refine wpQuiet_nil ?_
          intro _ hw'
          obtain ⟨⟨dq, osq⟩, hw''⟩ := hw'
          subst hw''
          have hb2 := below_regrown W1 dq osq
          have E2 := Lib.hid (HE1.out.below hb2)
          have O2 := Lib.hid (HO1.out.trans (Off.ofBelow hb2))
          clear hb2
          go_wp2_with fail
          refine bodyPost_ret (v := .tuple #[]) ?_ rfl ⟨rfl, by rw [← HR.out, HX.out]; exact E2.out, O2.out⟩
          simp [results, Try.results95, go_sem]
        · have CL2 := Lib.hid (fun w' => sLessB _ _ _ hq2 w')
          have HX := Lib.hid (show siftDown ltU hi first r d' = siftDown ltU hi first ch (swp d' pr pc) from sd_go1 (by omega) (by omega) (by omega) (pc1 := pc1) (by omega) (by omega) HQ.out hq2)
          clear hq2
          go_wp2_with fail
          refine wp_region_quiet_below (by kernel_rfl) (by kernel_rfl) ?_
          repeat (go_big_quiet_step (first | (go_at_call 82; exact Calls.regrown_of (CL2.out _))))
          refine wpQuiet_nil ?_
          intro _ hw'
          obtain ⟨⟨dq, osq⟩, hw''⟩ := hw'
          subst hw''
          have hb2 := below_regrown W1 dq osq
          have E2 := HE1.out.below hb2
          have ho2 := HO1.out.trans (Off.ofBelow hb2)
          clear hb2 c1 c2 f1 f2 hl1
          generalize grow (redrawn W1 dq) osq = W2 at *
          have c1 := E2.c pr (by omega)
          have c2 := E2.c pc (by omega)
          have f1 := E2.f pr (by omega)
          have f2 := E2.f pc (by omega)
          have E3 := Lib.hid ((E2.swap pr pc (by omega) (by omega)).kept (w' := ((W2.setCell ⟨g, pr, none⟩ (.int .u32 d'[pc]!)).setCell ⟨g, pc, none⟩ (.int .u32 d'[pr]!)).drew) rfl (Nat.le_refl _))
          have O3 := Lib.hid ((ho2.trans (off_swap W2 g pr pc (.int .u32 d'[pc]!) (.int .u32 d'[pr]!))).trans (off_drew _))
          have HR2 := Lib.hid (HX.out.symm.trans HR.out)
          clear E2 ho2 hg
          go_wp2_with fail
          go_region
          go_wp2_with fail
          go_roundw
          case rel => exact ⟨ch, swp d' pr pc, by omega, rfl, E3.out, by rw [swp_size]; exact hs, HR2.out, O3.out⟩
          case measure => simp [intOf]; omega
    · have HX := Lib.hid (show siftDown ltU hi first r d' = d' from sd_stop (by omega))
      go_wp2_with fail
      go_end0
      exact ⟨rfl, by rw [← HR.out, HX.out]; exact HE.out, HO.out⟩
end Go.Proofs.Ytafegmmcgghgaaa.B
