/- slices.Sort at uint32: partialInsertionSort. -/
import Derived.Test.YtafegmmcgghgaaaSrtD
namespace Go.Proofs.Ytafegmmcgghgaaa.B
set_option linter.unusedVariables false
set_option linter.unusedSimpArgs false
open Go.ChangeShapes Go.WideShapes Go.RowKit Go.Sort
theorem shiftDown_zero (e : Array Int) : shiftDown ltU 0 e = e := rfl
theorem shiftDown_stop (z : Nat) (e : Array Int) (h : ltU e[z + 1]! e[z]! = false) : shiftDown ltU (z + 1) e = e := by
  unfold shiftDown; rw [h]; rfl
theorem shiftDown_go (z : Nat) (e : Array Int) (h : ltU e[z + 1]! e[z]! = true) : shiftDown ltU (z + 1) e = shiftDown ltU z (swp e (z + 1) z) := by
  conv => lhs; unfold shiftDown
  rw [h]; rfl
theorem shiftUp_stop (b z : Nat) (e : Array Int) (hb : z + 1 < b) (h : ltU e[z + 1]! e[z]! = false) : shiftUp ltU b (z + 1) e = e := by
  rw [shiftUp.eq_def, if_pos hb, Nat.add_sub_cancel, h]; rfl
theorem shiftUp_go (b z : Nat) (e : Array Int) (hb : z + 1 < b) (h : ltU e[z + 1]! e[z]! = true) : shiftUp ltU b (z + 1) e = shiftUp ltU b (z + 1 + 1) (swp e (z + 1) z) := by
  conv => lhs; rw [shiftUp.eq_def]
  rw [if_pos hb, Nat.add_sub_cancel, h]; rfl
theorem shiftUp_end (b z : Nat) (e : Array Int) (hb : ¬ z < b) : shiftUp ltU b z e = e := by
  rw [shiftUp.eq_def, if_neg hb]
theorem scanSorted_go (b z : Nat) (e : Array Int) (hb : z + 1 < b) (h : ltU e[z + 1]! e[z]! = false) : scanSorted ltU e b (z + 1) = scanSorted ltU e b (z + 1 + 1) := by
  conv => lhs; rw [scanSorted.eq_def]
  rw [Nat.add_sub_cancel, h, if_pos (by simpa using hb)]
theorem scanSorted_stop (b z : Nat) (e : Array Int) (h : ltU e[z + 1]! e[z]! = true) : scanSorted ltU e b (z + 1) = z + 1 := by
  rw [scanSorted.eq_def, Nat.add_sub_cancel, h, if_neg (by simp)]
theorem scanSorted_end (b z : Nat) (e : Array Int) (hb : ¬ z < b) : scanSorted ltU e b z = z := by
  rw [scanSorted.eq_def, if_neg (by simp; omega)]
set_option maxRecDepth 100000 in
set_option maxHeartbeats 25600000 in
theorem sPIns (g n cap a b : Nat) (d : Array Int) (w : World) (h : DAt w g d) (hab : a < b) (hb : b ≤ d.size) (hn : d.size = n) (hc : n ≤ cap) (hm : cap ≤ 9223372036854775807) (hm2 : n < 1152921504606846976) :
    Calls Try.prog 81 #[.slice (some ⟨g, 0, none⟩) n cap, .int .i64 a, .int .i64 b] w
      fun e w' => e = .returned (.bool (partialInsertionSort ltU d a b).2) ∧ DAt w' g (partialInsertionSort ltU d a b).1 ∧ Off (· = g) w w' := by
  subst hn
  obtain ⟨R, hR⟩ : ∃ R, partialInsertionSort ltU d a b = R := ⟨_, rfl⟩
  rw [hR]
  have HR := Lib.hid (show partialIns ltU a b 5 (a + 1) d = R from hR)
  clear hR
  go_enter Try.func81, Try.ntmps81
  go_wp2_with fail
  go_loopw [7, 8] (fun v7 v8 wr => ∃ (x k : Nat) (e : Array Int), v7 = .int .i64 x ∧ v8 = .int .i64 k ∧ a + 1 ≤ x ∧ x ≤ b ∧ k ≤ 5 ∧ DAt wr g e ∧ Off (· = g) w wr ∧ e.size = d.size ∧ Hid (partialIns ltU a b (5 - k) x e = R)) (fun v7 v8 _ => 5 - (intOf v8).toNat)
  case atStart => exact ⟨a + 1, 0, d, by go_num, rfl, Nat.le_refl _, by omega, by omega, h, Off.refl _ _, rfl, HR⟩
  case round =>
    clear h HR
    obtain ⟨x, k, e, rfl, rfl, hx0, hx1, hk, D, O, hes, HR⟩ := hrel
    by_cases hk5 : k < 5
    · obtain ⟨s, hs⟩ : ∃ s, 5 - k = s + 1 := ⟨4 - k, by omega⟩
      have HP : Hid (∀ u, scanSorted ltU e b x = u → R = if u = b then (e, true) else if b - a < 50 then (e, false) else partialIns ltU a b s u (fixUp ltU b u (fixDown ltU a u (swp e u (u - 1))))) :=
        Lib.hid (fun u hu => by rw [← HR.out, hs, partialIns_succ, hu])
      clear HR
      go_wp2_with fail
      go_loopw [7] (fun v wr => ∃ u : Nat, v = .int .i64 u ∧ x ≤ u ∧ u ≤ b ∧ DAt wr g e ∧ Off (· = g) w wr ∧ Hid (scanSorted ltU e b u = scanSorted ltU e b x)) (fun v _ => b - (intOf v).toNat)
      case atStart => exact ⟨x, rfl, Nat.le_refl _, hx1, D, O, Lib.hid rfl⟩
      case round =>
        clear D O
        obtain ⟨u, rfl, hu0, hu1, D, O, HS⟩ := hrel
        have hg := gcell
        have hgl := D.lt
        by_cases hub : u < b
        · have q0 : decide ((u : Int) < (b : Int)) = true := decide_eq_true (by omega)
          obtain ⟨um, hum⟩ : ∃ z, u = z + 1 := ⟨u - 1, by omega⟩
          have em : (u : Int) - 1 = (um : Int) := by omega
          have c1 := D.c u (by omega)
          have c2 := D.c um (by omega)
          have HD := Lib.hid D
          have HO := Lib.hid O
          clear D O
          cases hl : ltU e[u]! e[um]!
          · have CL := Lib.hid (fun w' => sLessB _ _ _ hl w')
            have HX := Lib.hid (show scanSorted ltU e b (u + 1) = scanSorted ltU e b x by rw [← HS.out, hum, scanSorted_go b um e (by omega) (by rw [← hum]; exact hl)])
            clear hl hum HS
            go_wp2_with fail
            refine wp_region_quiet_below (by kernel_rfl) (by kernel_rfl) ?_
            repeat (go_big_quiet_step (first | (go_at_call 82; exact Calls.regrown_of (CL.out _))))
            refine wpQuiet_nil ?_
            intro _ hw'
            obtain ⟨⟨dq, osq⟩, hw''⟩ := hw'
            subst hw''
            have hbr := below_regrown wr dq osq
            have D := HD.out.below hbr
            have O := HO.out.trans (Off.ofBelow hbr)
            clear hbr HD HO hg hgl
            dsimp only at D O ⊢
            generalize grow (redrawn wr dq) osq = WQ at *
            clear CL c1 c2
            go_wp2_with fail
            go_roundw
            case rel => exact ⟨u + 1, by go_num, by omega, by omega, D, O, HX⟩
            case measure => simp [intOf]; omega
          · have CL := Lib.hid (fun w' => sLessB _ _ _ hl w')
            have HX := Lib.hid (show scanSorted ltU e b x = u by rw [← HS.out, hum, scanSorted_stop b um e (by rw [← hum]; exact hl)])
            clear hl HS
            have HUM := Lib.hid hum
            clear hum
            go_wp2_with fail
            refine wp_region_quiet_below (by kernel_rfl) (by kernel_rfl) ?_
            repeat (go_big_quiet_step (first | (go_at_call 82; exact Calls.regrown_of (CL.out _))))
            refine wpQuiet_nil ?_
            intro _ hw'
            obtain ⟨⟨dq, osq⟩, hw''⟩ := hw'
            subst hw''
            have hbr := below_regrown wr dq osq
            have D := HD.out.below hbr
            have O := HO.out.trans (Off.ofBelow hbr)
            clear hbr HD HO hg hgl
            dsimp only at D O ⊢
            generalize grow (redrawn wr dq) osq = WQ at *
            clear CL c1 c2 q0
            have hub2 : ((u : Int) == (b : Int)) = false := by simp; omega
            by_cases h50 : b - a < 50
            · have HN2 := Lib.hid (show (e, false) = R by rw [HP.out u HX.out, if_neg (by omega), if_pos h50])
              have h50z : (b : Int) - (a : Int) < 50 := by omega
              have HD := Lib.hid D
              have HO := Lib.hid O
              clear HP HX D O
              go_wp2_with fail
              go_ret
              exact ⟨by rw [← HN2.out]; rfl, by rw [← HN2.out]; exact HD.out, HO.out⟩
            · have HM0 := Lib.hid (show partialIns ltU a b s u (fixUp ltU b u (fixDown ltU a u (swp e u um))) = R by
                have := HP.out u HX.out
                rw [if_neg (by omega), if_neg h50, show u - 1 = um by have := HUM.out; omega] at this
                exact this.symm)
              have h50z : ¬ (b : Int) - (a : Int) < 50 := by omega
              have hne : u ≠ um := by omega
              have hb1 : u < d.size := by omega
              have hb2 : um < d.size := by omega
              clear HP HX
              have c1 := D.c u (by omega)
              have c2 := D.c um (by omega)
              have f1 := D.f u (by omega)
              have f2 := D.f um (by omega)
              have HD2 := Lib.hid ((D.swap u um (by omega) (by omega)).kept (w' := (((WQ).setCell ⟨g, u, none⟩ (.int .u32 (e)[um]!)).setCell ⟨g, um, none⟩ (.int .u32 (e)[u]!)).drew) rfl (Nat.le_refl _))
              have HO2 := Lib.hid ((O.trans (off_swap (WQ) g u um (.int .u32 (e)[um]!) (.int .u32 (e)[u]!))).trans (off_drew _))
              generalize (e)[u]! = P1 at c1 c2 HD2 HO2
              generalize (e)[um]! = P2 at c1 c2 HD2 HO2
              clear D O
              go_wp2_with fail
              go_region
              clear c1 c2 f1 f2
              have D := HD2.out
              have O := HO2.out
              clear HD2 HO2
              generalize (((WQ).setCell ⟨g, u, none⟩ (.int .u32 P2)).setCell ⟨g, um, none⟩ (.int .u32 P1)).drew = W6 at *
              have hes1 : (swp e u um).size = d.size := by rw [swp_size]; exact hes
              obtain ⟨e1, he1⟩ : ∃ e1, swp e u um = e1 := ⟨_, rfl⟩
              have HM := Lib.hid (show partialIns ltU a b s u (fixUp ltU b u (fixDown ltU a u e1)) = R by rw [← he1]; exact HM0.out)
              clear HM0 hes
              rw [he1] at D hes1
              clear he1
              obtain ⟨e, he1⟩ : ∃ e, e = e1 := ⟨_, rfl⟩
              rw [← he1] at D hes1
              have hes := hes1
              clear hes1
              by_cases h2 : a + 2 ≤ u
              · have h2z : (2 : Int) ≤ (u : Int) - (a : Int) := by omega
                obtain ⟨S1, hS1⟩ : ∃ S1, shiftDown ltU um e = S1 := ⟨_, rfl⟩
                have HU1 := Lib.hid (show fixDown ltU a u e1 = S1 by unfold fixDown; rw [if_pos (by omega), show u - 1 = um by omega, ← he1, hS1])
                have HS1 := Lib.hid hS1
                clear hS1 he1
                go_wp2_with fail
                go_loopw [9] (fun v wr => ∃ (q : Nat) (e : Array Int), v = .int .i64 q ∧ q ≤ um ∧ DAt wr g e ∧ Off (· = g) w wr ∧ e.size = d.size ∧ Hid (shiftDown ltU q e = S1)) (fun v _ => (intOf v).toNat)
                case atStart => exact ⟨um, e, by first | rfl | go_num, Nat.le_refl _, D, O, hes, HS1⟩
                case round =>
                  clear D O hes HS1
                  obtain ⟨q, e, rfl, hq0, D, O, hes, HS1⟩ := hrel
                  have hg := gcell
                  have hgl := D.lt
                  by_cases hqb : 1 ≤ q
                  · have hqz1 : (1 : Int) ≤ (q : Int) := by omega
                    obtain ⟨z, hz⟩ : ∃ z, q = z + 1 := ⟨q - 1, by omega⟩
                    have ez : (q : Int) - 1 = (z : Int) := by omega
                    have c1 := D.c q (by omega)
                    have c2 := D.c z (by omega)
                    have HD := Lib.hid D
                    have HO := Lib.hid O
                    clear D O
                    cases hl : ltU e[q]! e[z]!
                    · have CL := Lib.hid (fun w' => sLessB _ _ _ hl w')
                      have HX := Lib.hid (show S1 = e by rw [← HS1.out, hz, shiftDown_stop z e (by rw [← hz]; exact hl)])
                      clear hl hz HS1
                      go_wp2_with fail
                      refine wp_region_quiet_below (by kernel_rfl) (by kernel_rfl) ?_
                      repeat (go_big_quiet_step (first | (go_at_call 82; exact Calls.regrown_of (CL.out _))))
                      refine wpQuiet_nil ?_
                      intro _ hw'
                      obtain ⟨⟨dq, osq⟩, hw''⟩ := hw'
                      subst hw''
                      have hbr := below_regrown wr dq osq
                      have D := HD.out.below hbr
                      have O := HO.out.trans (Off.ofBelow hbr)
                      clear hbr HD HO hg hgl
                      dsimp only at D O ⊢
                      generalize grow (redrawn wr dq) osq = WQ at *
                      have HXd := Lib.hid (show fixDown ltU a u e1 = e by rw [HU1.out, HX.out])
                      clear CL c1 c2 HX HU1 ez
                      obtain ⟨e0, he0⟩ : ∃ e0, e = e0 := ⟨_, rfl⟩
                      have HN := Lib.hid (show partialIns ltU a b s u (fixUp ltU b u e0) = R by rw [← he0, ← HXd.out]; exact HM.out)
                      clear HXd
                      by_cases h3 : u + 2 ≤ b
                      · have h3z : (2 : Int) ≤ (b : Int) - (u : Int) := by omega
                        obtain ⟨S2, hS2⟩ : ∃ S2, shiftUp ltU b (u + 1) e = S2 := ⟨_, rfl⟩
                        have HU := Lib.hid (show fixUp ltU b u e0 = S2 by unfold fixUp; rw [if_pos (by omega), ← he0, hS2])
                        have HS2 := Lib.hid hS2
                        clear hS2 he0
                        go_wp2_with fail
                        go_loopw [10] (fun v wr => ∃ (q : Nat) (e : Array Int), v = .int .i64 q ∧ u + 1 ≤ q ∧ q ≤ b ∧ DAt wr g e ∧ Off (· = g) w wr ∧ e.size = d.size ∧ Hid (shiftUp ltU b q e = S2)) (fun v _ => b - (intOf v).toNat)
                        case atStart => exact ⟨u + 1, e, by go_num, Nat.le_refl _, by omega, D, O, hes, HS2⟩
                        case round =>
                          clear D O hes HS2
                          obtain ⟨q, e, rfl, hq0, hq1, D, O, hes, HS2⟩ := hrel
                          have hg := gcell
                          have hgl := D.lt
                          by_cases hqb : q < b
                          · obtain ⟨z, hz⟩ : ∃ z, q = z + 1 := ⟨q - 1, by omega⟩
                            have ez : (q : Int) - 1 = (z : Int) := by omega
                            have c1 := D.c q (by omega)
                            have c2 := D.c z (by omega)
                            have HD := Lib.hid D
                            have HO := Lib.hid O
                            clear D O
                            cases hl : ltU e[q]! e[z]!
                            · have CL := Lib.hid (fun w' => sLessB _ _ _ hl w')
                              have HX := Lib.hid (show S2 = e by rw [← HS2.out, hz, shiftUp_stop b z e (by omega) (by rw [← hz]; exact hl)])
                              clear hl hz HS2
                              go_wp2_with fail
                              refine wp_region_quiet_below (by kernel_rfl) (by kernel_rfl) ?_
                              repeat (go_big_quiet_step (first | (go_at_call 82; exact Calls.regrown_of (CL.out _))))
                              refine wpQuiet_nil ?_
                              intro _ hw'
                              obtain ⟨⟨dq, osq⟩, hw''⟩ := hw'
                              subst hw''
                              have hbr := below_regrown wr dq osq
                              have D := HD.out.below hbr
                              have O := HO.out.trans (Off.ofBelow hbr)
                              clear hbr HD HO hg hgl
                              dsimp only at D O ⊢
                              generalize grow (redrawn wr dq) osq = WQ at *
                              have HXu := Lib.hid (show fixUp ltU b u e0 = e by rw [HU.out, HX.out])
                              clear CL c1 c2 HX
                              have HR3 := Lib.hid (show partialIns ltU a b (5 - (k + 1)) u e = R by rw [show 5 - (k + 1) = s by omega, ← HXu.out]; exact HN.out)
                              go_wp2_with fail
                              go_roundw
                              case rel => exact ⟨u, k + 1, e, rfl, by go_num, by omega, by omega, by omega, D, O, hes, HR3⟩
                              case measure => simp [intOf]; omega
                            · have CL := Lib.hid (fun w' => sLessB _ _ _ hl w')
                              have HX := Lib.hid (show shiftUp ltU b (q + 1) (swp e q z) = S2 by rw [← HS2.out, hz, shiftUp_go b z e (by omega) (by rw [← hz]; exact hl)])
                              have hne : q ≠ z := by omega
                              clear hl hz HS2
                              go_wp2_with fail
                              refine wp_region_quiet_below (by kernel_rfl) (by kernel_rfl) ?_
                              repeat (go_big_quiet_step (first | (go_at_call 82; exact Calls.regrown_of (CL.out _))))
                              refine wpQuiet_nil ?_
                              intro _ hw'
                              obtain ⟨⟨dq, osq⟩, hw''⟩ := hw'
                              subst hw''
                              have hbr := below_regrown wr dq osq
                              have D := HD.out.below hbr
                              have O := HO.out.trans (Off.ofBelow hbr)
                              clear hbr HD HO hg hgl
                              dsimp only at D O ⊢
                              generalize grow (redrawn wr dq) osq = WQ at *
                              clear CL c1 c2
                              have hb1 : q < d.size := by omega
                              have hb2 : z < d.size := by omega
                              have c1 := D.c q (by omega)
                              have c2 := D.c z (by omega)
                              have f1 := D.f q (by omega)
                              have f2 := D.f z (by omega)
                              have HD2 := Lib.hid ((D.swap q z (by omega) (by omega)).kept (w' := (((WQ).setCell ⟨g, q, none⟩ (.int .u32 (e)[z]!)).setCell ⟨g, z, none⟩ (.int .u32 (e)[q]!)).drew) rfl (Nat.le_refl _))
                              have HO2 := Lib.hid ((O.trans (off_swap (WQ) g q z (.int .u32 (e)[z]!) (.int .u32 (e)[q]!))).trans (off_drew _))
                              generalize (e)[q]! = P1 at c1 c2 HD2 HO2
                              generalize (e)[z]! = P2 at c1 c2 HD2 HO2
                              clear D O
                              go_wp2_with fail
                              go_region
                              clear c1 c2 f1 f2
                              have D := HD2.out
                              have O := HO2.out
                              clear HD2 HO2
                              generalize (((WQ).setCell ⟨g, q, none⟩ (.int .u32 P2)).setCell ⟨g, z, none⟩ (.int .u32 P1)).drew = W7 at *
                              go_wp2_with fail
                              go_roundw
                              case rel => exact ⟨q + 1, swp e q z, by go_num, by omega, by omega, D, O, by rw [swp_size]; exact hes, HX⟩
                              case measure => simp [intOf]; omega
                          · have HX := Lib.hid (show S2 = e by rw [← HS2.out, shiftUp_end b q e hqb])
                            have HXu := Lib.hid (show fixUp ltU b u e0 = e by rw [HU.out, HX.out])
                            have hqz : ¬ (q : Int) < (b : Int) := by omega
                            clear HS2 HX hg hgl
                            have HR3 := Lib.hid (show partialIns ltU a b (5 - (k + 1)) u e = R by rw [show 5 - (k + 1) = s by omega, ← HXu.out]; exact HN.out)
                            go_wp2_with fail
                            go_roundw
                            case rel => exact ⟨u, k + 1, e, rfl, by go_num, by omega, by omega, by omega, D, O, hes, HR3⟩
                            case measure => simp [intOf]; omega
                      · have h3z : ¬ (2 : Int) ≤ (b : Int) - (u : Int) := by omega
                        have HXu := Lib.hid (show fixUp ltU b u e0 = e by unfold fixUp; rw [if_neg (by omega), he0])
                        clear he0
                        have HR3 := Lib.hid (show partialIns ltU a b (5 - (k + 1)) u e = R by rw [show 5 - (k + 1) = s by omega, ← HXu.out]; exact HN.out)
                        go_wp2_with fail
                        go_roundw
                        case rel => exact ⟨u, k + 1, e, rfl, by go_num, by omega, by omega, by omega, D, O, hes, HR3⟩
                        case measure => simp [intOf]; omega
                    · have CL := Lib.hid (fun w' => sLessB _ _ _ hl w')
                      have HX := Lib.hid (show shiftDown ltU z (swp e q z) = S1 by rw [← HS1.out, hz, shiftDown_go z e (by rw [← hz]; exact hl)])
                      have hne : q ≠ z := by omega
                      clear hl hz HS1
                      go_wp2_with fail
                      refine wp_region_quiet_below (by kernel_rfl) (by kernel_rfl) ?_
                      repeat (go_big_quiet_step (first | (go_at_call 82; exact Calls.regrown_of (CL.out _))))
                      refine wpQuiet_nil ?_
                      intro _ hw'
                      obtain ⟨⟨dq, osq⟩, hw''⟩ := hw'
                      subst hw''
                      have hbr := below_regrown wr dq osq
                      have D := HD.out.below hbr
                      have O := HO.out.trans (Off.ofBelow hbr)
                      clear hbr HD HO hg hgl
                      dsimp only at D O ⊢
                      generalize grow (redrawn wr dq) osq = WQ at *
                      clear CL c1 c2
                      have hb1 : q < d.size := by omega
                      have hb2 : z < d.size := by omega
                      have c1 := D.c q (by omega)
                      have c2 := D.c z (by omega)
                      have f1 := D.f q (by omega)
                      have f2 := D.f z (by omega)
                      have HD2 := Lib.hid ((D.swap q z (by omega) (by omega)).kept (w' := (((WQ).setCell ⟨g, q, none⟩ (.int .u32 (e)[z]!)).setCell ⟨g, z, none⟩ (.int .u32 (e)[q]!)).drew) rfl (Nat.le_refl _))
                      have HO2 := Lib.hid ((O.trans (off_swap (WQ) g q z (.int .u32 (e)[z]!) (.int .u32 (e)[q]!))).trans (off_drew _))
                      generalize (e)[q]! = P1 at c1 c2 HD2 HO2
                      generalize (e)[z]! = P2 at c1 c2 HD2 HO2
                      clear D O
                      go_wp2_with fail
                      go_region
                      clear c1 c2 f1 f2
                      have D := HD2.out
                      have O := HO2.out
                      clear HD2 HO2
                      generalize (((WQ).setCell ⟨g, q, none⟩ (.int .u32 P2)).setCell ⟨g, z, none⟩ (.int .u32 P1)).drew = W7 at *
                      go_wp2_with fail
                      go_roundw
                      case rel => exact ⟨z, swp e q z, by go_num, by omega, D, O, by rw [swp_size]; exact hes, HX⟩
                      case measure => simp [intOf]; omega
                  · have HX := Lib.hid (show S1 = e by rw [← HS1.out, show q = 0 by omega, shiftDown_zero])
                    have HXd := Lib.hid (show fixDown ltU a u e1 = e by rw [HU1.out, HX.out])
                    have hqz : ¬ (1 : Int) ≤ (q : Int) := by omega
                    clear HS1 HX HU1 hg hgl
                    obtain ⟨e0, he0⟩ : ∃ e0, e = e0 := ⟨_, rfl⟩
                    have HN := Lib.hid (show partialIns ltU a b s u (fixUp ltU b u e0) = R by rw [← he0, ← HXd.out]; exact HM.out)
                    clear HXd
                    by_cases h3 : u + 2 ≤ b
                    · have h3z : (2 : Int) ≤ (b : Int) - (u : Int) := by omega
                      obtain ⟨S2, hS2⟩ : ∃ S2, shiftUp ltU b (u + 1) e = S2 := ⟨_, rfl⟩
                      have HU := Lib.hid (show fixUp ltU b u e0 = S2 by unfold fixUp; rw [if_pos (by omega), ← he0, hS2])
                      have HS2 := Lib.hid hS2
                      clear hS2 he0
                      go_wp2_with fail
                      go_loopw [10] (fun v wr => ∃ (q : Nat) (e : Array Int), v = .int .i64 q ∧ u + 1 ≤ q ∧ q ≤ b ∧ DAt wr g e ∧ Off (· = g) w wr ∧ e.size = d.size ∧ Hid (shiftUp ltU b q e = S2)) (fun v _ => b - (intOf v).toNat)
                      case atStart => exact ⟨u + 1, e, by go_num, Nat.le_refl _, by omega, D, O, hes, HS2⟩
                      case round =>
                        clear D O hes HS2
                        obtain ⟨q, e, rfl, hq0, hq1, D, O, hes, HS2⟩ := hrel
                        have hg := gcell
                        have hgl := D.lt
                        by_cases hqb : q < b
                        · obtain ⟨z, hz⟩ : ∃ z, q = z + 1 := ⟨q - 1, by omega⟩
                          have ez : (q : Int) - 1 = (z : Int) := by omega
                          have c1 := D.c q (by omega)
                          have c2 := D.c z (by omega)
                          have HD := Lib.hid D
                          have HO := Lib.hid O
                          clear D O
                          cases hl : ltU e[q]! e[z]!
                          · have CL := Lib.hid (fun w' => sLessB _ _ _ hl w')
                            have HX := Lib.hid (show S2 = e by rw [← HS2.out, hz, shiftUp_stop b z e (by omega) (by rw [← hz]; exact hl)])
                            clear hl hz HS2
                            go_wp2_with fail
                            refine wp_region_quiet_below (by kernel_rfl) (by kernel_rfl) ?_
                            repeat (go_big_quiet_step (first | (go_at_call 82; exact Calls.regrown_of (CL.out _))))
                            refine wpQuiet_nil ?_
                            intro _ hw'
                            obtain ⟨⟨dq, osq⟩, hw''⟩ := hw'
                            subst hw''
                            have hbr := below_regrown wr dq osq
                            have D := HD.out.below hbr
                            have O := HO.out.trans (Off.ofBelow hbr)
                            clear hbr HD HO hg hgl
                            dsimp only at D O ⊢
                            generalize grow (redrawn wr dq) osq = WQ at *
                            have HXu := Lib.hid (show fixUp ltU b u e0 = e by rw [HU.out, HX.out])
                            clear CL c1 c2 HX
                            have HR3 := Lib.hid (show partialIns ltU a b (5 - (k + 1)) u e = R by rw [show 5 - (k + 1) = s by omega, ← HXu.out]; exact HN.out)
                            go_wp2_with fail
                            go_roundw
                            case rel => exact ⟨u, k + 1, e, rfl, by go_num, by omega, by omega, by omega, D, O, hes, HR3⟩
                            case measure => simp [intOf]; omega
                          · have CL := Lib.hid (fun w' => sLessB _ _ _ hl w')
                            have HX := Lib.hid (show shiftUp ltU b (q + 1) (swp e q z) = S2 by rw [← HS2.out, hz, shiftUp_go b z e (by omega) (by rw [← hz]; exact hl)])
                            have hne : q ≠ z := by omega
                            clear hl hz HS2
                            go_wp2_with fail
                            refine wp_region_quiet_below (by kernel_rfl) (by kernel_rfl) ?_
                            repeat (go_big_quiet_step (first | (go_at_call 82; exact Calls.regrown_of (CL.out _))))
                            refine wpQuiet_nil ?_
                            intro _ hw'
                            obtain ⟨⟨dq, osq⟩, hw''⟩ := hw'
                            subst hw''
                            have hbr := below_regrown wr dq osq
                            have D := HD.out.below hbr
                            have O := HO.out.trans (Off.ofBelow hbr)
                            clear hbr HD HO hg hgl
                            dsimp only at D O ⊢
                            generalize grow (redrawn wr dq) osq = WQ at *
                            clear CL c1 c2
                            have hb1 : q < d.size := by omega
                            have hb2 : z < d.size := by omega
                            have c1 := D.c q (by omega)
                            have c2 := D.c z (by omega)
                            have f1 := D.f q (by omega)
                            have f2 := D.f z (by omega)
                            have HD2 := Lib.hid ((D.swap q z (by omega) (by omega)).kept (w' := (((WQ).setCell ⟨g, q, none⟩ (.int .u32 (e)[z]!)).setCell ⟨g, z, none⟩ (.int .u32 (e)[q]!)).drew) rfl (Nat.le_refl _))
                            have HO2 := Lib.hid ((O.trans (off_swap (WQ) g q z (.int .u32 (e)[z]!) (.int .u32 (e)[q]!))).trans (off_drew _))
                            generalize (e)[q]! = P1 at c1 c2 HD2 HO2
                            generalize (e)[z]! = P2 at c1 c2 HD2 HO2
                            clear D O
                            go_wp2_with fail
                            go_region
                            clear c1 c2 f1 f2
                            have D := HD2.out
                            have O := HO2.out
                            clear HD2 HO2
                            generalize (((WQ).setCell ⟨g, q, none⟩ (.int .u32 P2)).setCell ⟨g, z, none⟩ (.int .u32 P1)).drew = W7 at *
                            go_wp2_with fail
                            go_roundw
                            case rel => exact ⟨q + 1, swp e q z, by go_num, by omega, by omega, D, O, by rw [swp_size]; exact hes, HX⟩
                            case measure => simp [intOf]; omega
                        · have HX := Lib.hid (show S2 = e by rw [← HS2.out, shiftUp_end b q e hqb])
                          have HXu := Lib.hid (show fixUp ltU b u e0 = e by rw [HU.out, HX.out])
                          have hqz : ¬ (q : Int) < (b : Int) := by omega
                          clear HS2 HX hg hgl
                          have HR3 := Lib.hid (show partialIns ltU a b (5 - (k + 1)) u e = R by rw [show 5 - (k + 1) = s by omega, ← HXu.out]; exact HN.out)
                          go_wp2_with fail
                          go_roundw
                          case rel => exact ⟨u, k + 1, e, rfl, by go_num, by omega, by omega, by omega, D, O, hes, HR3⟩
                          case measure => simp [intOf]; omega
                    · have h3z : ¬ (2 : Int) ≤ (b : Int) - (u : Int) := by omega
                      have HXu := Lib.hid (show fixUp ltU b u e0 = e by unfold fixUp; rw [if_neg (by omega), he0])
                      clear he0
                      have HR3 := Lib.hid (show partialIns ltU a b (5 - (k + 1)) u e = R by rw [show 5 - (k + 1) = s by omega, ← HXu.out]; exact HN.out)
                      go_wp2_with fail
                      go_roundw
                      case rel => exact ⟨u, k + 1, e, rfl, by go_num, by omega, by omega, by omega, D, O, hes, HR3⟩
                      case measure => simp [intOf]; omega
              · have h2z : ¬ (2 : Int) ≤ (u : Int) - (a : Int) := by omega
                have HXd := Lib.hid (show fixDown ltU a u e1 = e by unfold fixDown; rw [if_neg (by omega), he1])
                clear he1
                obtain ⟨e0, he0⟩ : ∃ e0, e = e0 := ⟨_, rfl⟩
                have HN := Lib.hid (show partialIns ltU a b s u (fixUp ltU b u e0) = R by rw [← he0, ← HXd.out]; exact HM.out)
                clear HXd
                by_cases h3 : u + 2 ≤ b
                · have h3z : (2 : Int) ≤ (b : Int) - (u : Int) := by omega
                  obtain ⟨S2, hS2⟩ : ∃ S2, shiftUp ltU b (u + 1) e = S2 := ⟨_, rfl⟩
                  have HU := Lib.hid (show fixUp ltU b u e0 = S2 by unfold fixUp; rw [if_pos (by omega), ← he0, hS2])
                  have HS2 := Lib.hid hS2
                  clear hS2 he0
                  go_wp2_with fail
                  go_loopw [10] (fun v wr => ∃ (q : Nat) (e : Array Int), v = .int .i64 q ∧ u + 1 ≤ q ∧ q ≤ b ∧ DAt wr g e ∧ Off (· = g) w wr ∧ e.size = d.size ∧ Hid (shiftUp ltU b q e = S2)) (fun v _ => b - (intOf v).toNat)
                  case atStart => exact ⟨u + 1, e, by go_num, Nat.le_refl _, by omega, D, O, hes, HS2⟩
                  case round =>
                    clear D O hes HS2
                    obtain ⟨q, e, rfl, hq0, hq1, D, O, hes, HS2⟩ := hrel
                    have hg := gcell
                    have hgl := D.lt
                    by_cases hqb : q < b
                    · obtain ⟨z, hz⟩ : ∃ z, q = z + 1 := ⟨q - 1, by omega⟩
                      have ez : (q : Int) - 1 = (z : Int) := by omega
                      have c1 := D.c q (by omega)
                      have c2 := D.c z (by omega)
                      have HD := Lib.hid D
                      have HO := Lib.hid O
                      clear D O
                      cases hl : ltU e[q]! e[z]!
                      · have CL := Lib.hid (fun w' => sLessB _ _ _ hl w')
                        have HX := Lib.hid (show S2 = e by rw [← HS2.out, hz, shiftUp_stop b z e (by omega) (by rw [← hz]; exact hl)])
                        clear hl hz HS2
                        go_wp2_with fail
                        refine wp_region_quiet_below (by kernel_rfl) (by kernel_rfl) ?_
                        repeat (go_big_quiet_step (first | (go_at_call 82; exact Calls.regrown_of (CL.out _))))
                        refine wpQuiet_nil ?_
                        intro _ hw'
                        obtain ⟨⟨dq, osq⟩, hw''⟩ := hw'
                        subst hw''
                        have hbr := below_regrown wr dq osq
                        have D := HD.out.below hbr
                        have O := HO.out.trans (Off.ofBelow hbr)
                        clear hbr HD HO hg hgl
                        dsimp only at D O ⊢
                        generalize grow (redrawn wr dq) osq = WQ at *
                        have HXu := Lib.hid (show fixUp ltU b u e0 = e by rw [HU.out, HX.out])
                        clear CL c1 c2 HX
                        have HR3 := Lib.hid (show partialIns ltU a b (5 - (k + 1)) u e = R by rw [show 5 - (k + 1) = s by omega, ← HXu.out]; exact HN.out)
                        go_wp2_with fail
                        go_roundw
                        case rel => exact ⟨u, k + 1, e, rfl, by go_num, by omega, by omega, by omega, D, O, hes, HR3⟩
                        case measure => simp [intOf]; omega
                      · have CL := Lib.hid (fun w' => sLessB _ _ _ hl w')
                        have HX := Lib.hid (show shiftUp ltU b (q + 1) (swp e q z) = S2 by rw [← HS2.out, hz, shiftUp_go b z e (by omega) (by rw [← hz]; exact hl)])
                        have hne : q ≠ z := by omega
                        clear hl hz HS2
                        go_wp2_with fail
                        refine wp_region_quiet_below (by kernel_rfl) (by kernel_rfl) ?_
                        repeat (go_big_quiet_step (first | (go_at_call 82; exact Calls.regrown_of (CL.out _))))
                        refine wpQuiet_nil ?_
                        intro _ hw'
                        obtain ⟨⟨dq, osq⟩, hw''⟩ := hw'
                        subst hw''
                        have hbr := below_regrown wr dq osq
                        have D := HD.out.below hbr
                        have O := HO.out.trans (Off.ofBelow hbr)
                        clear hbr HD HO hg hgl
                        dsimp only at D O ⊢
                        generalize grow (redrawn wr dq) osq = WQ at *
                        clear CL c1 c2
                        have hb1 : q < d.size := by omega
                        have hb2 : z < d.size := by omega
                        have c1 := D.c q (by omega)
                        have c2 := D.c z (by omega)
                        have f1 := D.f q (by omega)
                        have f2 := D.f z (by omega)
                        have HD2 := Lib.hid ((D.swap q z (by omega) (by omega)).kept (w' := (((WQ).setCell ⟨g, q, none⟩ (.int .u32 (e)[z]!)).setCell ⟨g, z, none⟩ (.int .u32 (e)[q]!)).drew) rfl (Nat.le_refl _))
                        have HO2 := Lib.hid ((O.trans (off_swap (WQ) g q z (.int .u32 (e)[z]!) (.int .u32 (e)[q]!))).trans (off_drew _))
                        generalize (e)[q]! = P1 at c1 c2 HD2 HO2
                        generalize (e)[z]! = P2 at c1 c2 HD2 HO2
                        clear D O
                        go_wp2_with fail
                        go_region
                        clear c1 c2 f1 f2
                        have D := HD2.out
                        have O := HO2.out
                        clear HD2 HO2
                        generalize (((WQ).setCell ⟨g, q, none⟩ (.int .u32 P2)).setCell ⟨g, z, none⟩ (.int .u32 P1)).drew = W7 at *
                        go_wp2_with fail
                        go_roundw
                        case rel => exact ⟨q + 1, swp e q z, by go_num, by omega, by omega, D, O, by rw [swp_size]; exact hes, HX⟩
                        case measure => simp [intOf]; omega
                    · have HX := Lib.hid (show S2 = e by rw [← HS2.out, shiftUp_end b q e hqb])
                      have HXu := Lib.hid (show fixUp ltU b u e0 = e by rw [HU.out, HX.out])
                      have hqz : ¬ (q : Int) < (b : Int) := by omega
                      clear HS2 HX hg hgl
                      have HR3 := Lib.hid (show partialIns ltU a b (5 - (k + 1)) u e = R by rw [show 5 - (k + 1) = s by omega, ← HXu.out]; exact HN.out)
                      go_wp2_with fail
                      go_roundw
                      case rel => exact ⟨u, k + 1, e, rfl, by go_num, by omega, by omega, by omega, D, O, hes, HR3⟩
                      case measure => simp [intOf]; omega
                · have h3z : ¬ (2 : Int) ≤ (b : Int) - (u : Int) := by omega
                  have HXu := Lib.hid (show fixUp ltU b u e0 = e by unfold fixUp; rw [if_neg (by omega), he0])
                  clear he0
                  have HR3 := Lib.hid (show partialIns ltU a b (5 - (k + 1)) u e = R by rw [show 5 - (k + 1) = s by omega, ← HXu.out]; exact HN.out)
                  go_wp2_with fail
                  go_roundw
                  case rel => exact ⟨u, k + 1, e, rfl, by go_num, by omega, by omega, by omega, D, O, hes, HR3⟩
                  case measure => simp [intOf]; omega
        · obtain rfl : u = b := by omega
          have q0 : decide ((u : Int) < (u : Int)) = false := decide_eq_false (by omega)
          have HN2 := Lib.hid (show (e, true) = R by rw [HP.out u (by rw [← HS.out, scanSorted_end u u e (by omega)]), if_pos rfl])
          have HD := Lib.hid D
          have HO := Lib.hid O
          clear D O HS HP
          go_wp2_with fail
          refine wp_region_quiet_below (by kernel_rfl) (by kernel_rfl) ?_
          repeat (go_big_quiet_step (fail))
          refine wpQuiet_nil ?_
          intro _ hw'
          obtain ⟨⟨dq, osq⟩, hw''⟩ := hw'
          subst hw''
          have hbr := below_regrown wr dq osq
          have D := HD.out.below hbr
          have O := HO.out.trans (Off.ofBelow hbr)
          clear hbr HD HO hg hgl
          dsimp only at D O ⊢
          generalize grow (redrawn wr dq) osq = WQ at *
          have HD := Lib.hid D
          have HO := Lib.hid O
          clear D O
          go_wp2_with fail
          go_ret
          exact ⟨by rw [← HN2.out]; rfl, by rw [← HN2.out]; exact HD.out, HO.out⟩
    · obtain rfl : k = 5 := by omega
      have HN2 := Lib.hid (show (e, false) = R by rw [← HR.out]; rfl)
      have HD := Lib.hid D
      have HO := Lib.hid O
      clear D O HR
      go_wp2_with fail
      go_ret
      exact ⟨by rw [← HN2.out]; rfl, by rw [← HN2.out]; exact HD.out, HO.out⟩
end Go.Proofs.Ytafegmmcgghgaaa.B
