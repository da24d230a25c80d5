/- slices.Sort at uint32: partition. -/
import Derived.Test.YtafegmmcgghgaaaSrtE
namespace Go.Proofs.Ytafegmmcgghgaaa.B
set_option linter.unusedVariables false
set_option linter.unusedSimpArgs false
open Go.ChangeShapes Go.WideShapes Go.RowKit Go.Sort
set_option maxRecDepth 100000 in
set_option maxHeartbeats 25600000 in
theorem sPart (g n cap a b p : Nat) (d : Array Int) (w : World) (h : DAt w g d) (hab : a < b) (hb : b ≤ d.size) (hp : a ≤ p) (hpb : p < b) (hn : d.size = n) (hc : n ≤ cap) (hm : cap ≤ 9223372036854775807) (hm2 : n < 1152921504606846976) :
    Calls Try.prog 84 #[.slice (some ⟨g, 0, none⟩) n cap, .int .i64 a, .int .i64 b, .int .i64 p] w
      fun e w' => e = .returned (.tuple #[.int .i64 (partition ltU d a b p).1, .bool (partition ltU d a b p).2.1]) ∧ DAt w' g (partition ltU d a b p).2.2 ∧ Off (· = g) w w' := by
  subst hn
  obtain ⟨R, hR⟩ : ∃ R, partition ltU d a b p = R := ⟨_, rfl⟩
  rw [hR]
  obtain ⟨x, hx⟩ : ∃ x, a + 1 = x := ⟨_, rfl⟩
  obtain ⟨y, hy⟩ : ∃ y, b - 1 = y := ⟨_, rfl⟩
  have hxi : (a : Int) + 1 = (x : Int) := by omega
  have hyi : (b : Int) - 1 = (y : Int) := by omega
  have HP0 : Hid (∀ e, swp d a p = e → ∀ u v, scanUp (fun z => ltU z e[a]!) e y x = u → scanDown (fun z => !ltU z e[a]!) e u y = v → R = if u > v then (v, true, swp e v a) else ((partLoop ltU a (u + 1) (v - 1) (swp e u v)).1, false, swp (partLoop ltU a (u + 1) (v - 1) (swp e u v)).2 (partLoop ltU a (u + 1) (v - 1) (swp e u v)).1 a)) :=
    Lib.hid (fun e he u v hu hv => by
      rw [← hR]
      unfold partition
      simp only [he, hx, hy, hu, hv])
  clear hR
  have O : Off (· = g) w w := Off.refl _ _
  have D := h
  clear h
  rcases (show a = p ∨ a < p by omega) with hq | hq
  · subst hq
    go_enter Try.func84, Try.ntmps84
    have c1 := D.c a (by omega)
    have c2 := D.c a (by omega)
    have f1 := D.f a (by omega)
    have f2 := D.f a (by omega)
    have HD2 := Lib.hid ((D.swap a a (by omega) (by omega)).kept (w' := (((w).setCell ⟨g, a, none⟩ (.int .u32 (d)[a]!)).setCell ⟨g, a, none⟩ (.int .u32 (d)[a]!)).drew) rfl (Nat.le_refl _))
    have HO2 := Lib.hid ((O.trans (off_swap (w) g a a (.int .u32 (d)[a]!) (.int .u32 (d)[a]!))).trans (off_drew _))
    generalize (d)[a]! = P1 at c1 c2 HD2 HO2
    clear D O
    go_wp2_with fail
    go_region
    clear c1 c2 f1 f2
    have D := HD2.out
    have O := HO2.out
    clear HD2 HO2
    generalize (((w).setCell ⟨g, a, none⟩ (.int .u32 P1)).setCell ⟨g, a, none⟩ (.int .u32 P1)).drew = W1 at *
    have hes : (swp d a a).size = d.size := swp_size d a a
    have HP := Lib.hid (HP0.out (swp d a a) rfl)
    clear HP0
    generalize swp d a a = e at *
    go_wp2_with fail
    go_loopw [10] (fun v wr => ∃ uA : Nat, v = .int .i64 uA ∧ x ≤ uA ∧ uA ≤ y + 1 ∧ DAt wr g e ∧ Off (· = g) w wr ∧ Hid (scanUp (fun z => ltU z e[a]!) e y uA = scanUp (fun z => ltU z e[a]!) e y x)) (fun v _ => y + 1 - (intOf v).toNat)
    case atStart => exact ⟨x, by first | rfl | go_num, Nat.le_refl _, by omega, D, O, Lib.hid rfl⟩
    case round =>
      clear D O
      obtain ⟨uA, rfl, huA0, huA1, D, O, HSA⟩ := hrel
      have hg := gcell
      have hgl := D.lt
      by_cases hle : uA ≤ y
      · have q0 : decide ((uA : Int) ≤ (y : Int)) = true := decide_eq_true (by omega)
        have c1 := D.c uA (by omega)
        have c2 := D.c a (by omega)
        have HD := Lib.hid D
        have HO := Lib.hid O
        clear D O
        cases hq : ltU e[uA]! e[a]!
        · have CL := Lib.hid (fun w' => sLessB _ _ _ hq w')
          have HX := Lib.hid (show scanUp (fun z => ltU z e[a]!) e y x = uA by rw [← HSA.out, scanUp.eq_def, if_neg (by simp [hq])])
          clear hq HSA
          go_wp2_with fail
          refine wp_region_quiet_below (by kernel_rfl) (by kernel_rfl) ?_
          repeat (go_big_quiet_step (first | (go_at_call 82; exact Calls.regrown_of (CL.out _))))
          refine wpQuiet_nil ?_
          intro _ hw'
          obtain ⟨⟨dq, osq⟩, hw''⟩ := hw'
          subst hw''
          have hbr := below_regrown wr dq osq
          have D := HD.out.below hbr
          have O := HO.out.trans (Off.ofBelow hbr)
          clear hbr HD HO CL hg hgl c1 c2 q0
          dsimp only at D O ⊢
          generalize grow (redrawn wr dq) osq = WA at *
          have HU := HX
          clear HX
          go_wp2_with fail
          go_loopw [11] (fun v wr => ∃ vB : Nat, v = .int .i64 vB ∧ vB ≤ y ∧ uA ≤ vB + 1 ∧ DAt wr g e ∧ Off (· = g) w wr ∧ Hid (scanDown (fun z => !ltU z e[a]!) e uA vB = scanDown (fun z => !ltU z e[a]!) e uA y)) (fun v _ => (intOf v).toNat)
          case atStart => exact ⟨y, by first | rfl | go_num, Nat.le_refl _, by omega, D, O, Lib.hid rfl⟩
          case round =>
            clear D O
            obtain ⟨vB, rfl, hvB0, hvB1, D, O, HSB⟩ := hrel
            have hg := gcell
            have hgl := D.lt
            by_cases hle : uA ≤ vB
            · have q0 : decide ((uA : Int) ≤ (vB : Int)) = true := decide_eq_true (by omega)
              obtain ⟨vBp, hvBp⟩ : ∃ z, vB = z + 1 := ⟨vB - 1, by omega⟩
              have c1 := D.c vB (by omega)
              have c2 := D.c a (by omega)
              have HD := Lib.hid D
              have HO := Lib.hid O
              clear D O
              cases hq : ltU e[vB]! e[a]!
              · have CL := Lib.hid (fun w' => sLessB _ _ _ hq w')
                have HX := Lib.hid (show scanDown (fun z => !ltU z e[a]!) e uA vBp = scanDown (fun z => !ltU z e[a]!) e uA y by
                  rw [← HSB.out, hvBp]
                  conv => rhs; unfold scanDown
                  rw [← hvBp, if_pos (by simp [hle, hq])])
                have ez : (vB : Int) - 1 = (vBp : Int) := by omega
                clear hq hvBp
                go_wp2_with fail
                refine wp_region_quiet_below (by kernel_rfl) (by kernel_rfl) ?_
                repeat (go_big_quiet_step (first | (go_at_call 82; exact Calls.regrown_of (CL.out _))))
                refine wpQuiet_nil ?_
                intro _ hw'
                obtain ⟨⟨dq, osq⟩, hw''⟩ := hw'
                subst hw''
                have hbr := below_regrown wr dq osq
                have D1 := HD.out.below hbr
                have O1 := HO.out.trans (Off.ofBelow hbr)
                clear hbr
                go_wp2_with fail
                go_roundw
                case rel => exact ⟨vBp, by go_num, by omega, by omega, D1, O1, HX⟩
                case measure => simp [intOf]; omega
              · have CL := Lib.hid (fun w' => sLessB _ _ _ hq w')
                have HX := Lib.hid (show scanDown (fun z => !ltU z e[a]!) e uA y = vB by rw [← HSB.out, hvBp]; unfold scanDown; rw [← hvBp, if_neg (by simp [hq])])
                clear hq HSB hvBp
                go_wp2_with fail
                refine wp_region_quiet_below (by kernel_rfl) (by kernel_rfl) ?_
                repeat (go_big_quiet_step (first | (go_at_call 82; exact Calls.regrown_of (CL.out _))))
                refine wpQuiet_nil ?_
                intro _ hw'
                obtain ⟨⟨dq, osq⟩, hw''⟩ := hw'
                subst hw''
                have hbr := below_regrown wr dq osq
                have D := HD.out.below hbr
                have O := HO.out.trans (Off.ofBelow hbr)
                clear hbr HD HO CL hg hgl c1 c2 q0
                dsimp only at D O ⊢
                generalize grow (redrawn wr dq) osq = WB at *
                have HN := Lib.hid (HP.out uA vB HU.out HX.out)
                by_cases hgt : vB < uA
                · have HN2 := Lib.hid (show (vB, true, swp e vB a) = R by rw [HN.out, if_pos hgt])
                  have hgz : (vB : Int) < (uA : Int) := by omega
                  clear HN HP
                  rcases (show vB = a ∨ a < vB by omega) with hqa | hqa
                  · have hqv : vB = a := by omega
                    have hb1 : vB < d.size := by omega
                    clear hqa
                    subst hqv
                    have c1 := D.c vB (by omega)
                    have c2 := D.c vB (by omega)
                    have f1 := D.f vB (by omega)
                    have f2 := D.f vB (by omega)
                    have HD2 := Lib.hid ((D.swap vB vB (by omega) (by omega)).kept (w' := (((WB).setCell ⟨g, vB, none⟩ (.int .u32 (e)[vB]!)).setCell ⟨g, vB, none⟩ (.int .u32 (e)[vB]!)).drew) rfl (Nat.le_refl _))
                    have HO2 := Lib.hid ((O.trans (off_swap (WB) g vB vB (.int .u32 (e)[vB]!) (.int .u32 (e)[vB]!))).trans (off_drew _))
                    generalize (e)[vB]! = P1 at c1 c2 HD2 HO2
                    clear D O
                    go_wp2_with fail
                    go_region
                    all_goals
                      clear c1 c2 f1 f2
                      have D := HD2.out
                      have O := HO2.out
                      clear HD2 HO2
                      generalize (((WB).setCell ⟨g, vB, none⟩ (.int .u32 P1)).setCell ⟨g, vB, none⟩ (.int .u32 P1)).drew = W9 at *
                      have HD := Lib.hid D
                      have HO := Lib.hid O
                      clear D O
                      go_wp2_with fail
                      go_ret2
                      exact ⟨by rw [← HN2.out]; rfl, by rw [← HN2.out]; exact HD.out, HO.out⟩
                  · have hne : vB ≠ a := by omega
                    have hb1 : vB < d.size := by omega
                    have hb2 : a < d.size := by omega
                    have c1 := D.c vB (by omega)
                    have c2 := D.c a (by omega)
                    have f1 := D.f vB (by omega)
                    have f2 := D.f a (by omega)
                    have HD2 := Lib.hid ((D.swap vB a (by omega) (by omega)).kept (w' := (((WB).setCell ⟨g, vB, none⟩ (.int .u32 (e)[a]!)).setCell ⟨g, a, none⟩ (.int .u32 (e)[vB]!)).drew) rfl (Nat.le_refl _))
                    have HO2 := Lib.hid ((O.trans (off_swap (WB) g vB a (.int .u32 (e)[a]!) (.int .u32 (e)[vB]!))).trans (off_drew _))
                    generalize (e)[vB]! = P1 at c1 c2 HD2 HO2
                    generalize (e)[a]! = P2 at c1 c2 HD2 HO2
                    clear D O
                    go_wp2_with fail
                    go_region
                    all_goals
                      clear c1 c2 f1 f2
                      have D := HD2.out
                      have O := HO2.out
                      clear HD2 HO2
                      generalize (((WB).setCell ⟨g, vB, none⟩ (.int .u32 P2)).setCell ⟨g, a, none⟩ (.int .u32 P1)).drew = W9 at *
                      have HD := Lib.hid D
                      have HO := Lib.hid O
                      clear D O
                      go_wp2_with fail
                      go_ret2
                      exact ⟨by rw [← HN2.out]; rfl, by rw [← HN2.out]; exact HD.out, HO.out⟩
                · obtain ⟨R3, hR3⟩ : ∃ R3, partLoop ltU a (uA + 1) (vB - 1) (swp e uA vB) = R3 := ⟨_, rfl⟩
                  have HF := Lib.hid (show (R3.1, false, swp R3.2 R3.1 a) = R by rw [HN.out, if_neg hgt, hR3])
                  have HR := Lib.hid hR3
                  have hgz : ¬ (vB : Int) < (uA : Int) := by omega
                  clear HN hR3 HP
                  have hq : uA < vB := by have := scans_apart _ _ (fun z => by simp) e y x uA vB HU.out HX.out (by omega) (by omega) (by omega); omega
                  have hne : uA ≠ vB := by omega
                  have hb1 : uA < d.size := by omega
                  have hb2 : vB < d.size := by omega
                  have c1 := D.c uA (by omega)
                  have c2 := D.c vB (by omega)
                  have f1 := D.f uA (by omega)
                  have f2 := D.f vB (by omega)
                  have HD2 := Lib.hid ((D.swap uA vB (by omega) (by omega)).kept (w' := (((WB).setCell ⟨g, uA, none⟩ (.int .u32 (e)[vB]!)).setCell ⟨g, vB, none⟩ (.int .u32 (e)[uA]!)).drew) rfl (Nat.le_refl _))
                  have HO2 := Lib.hid ((O.trans (off_swap (WB) g uA vB (.int .u32 (e)[vB]!) (.int .u32 (e)[uA]!))).trans (off_drew _))
                  generalize (e)[uA]! = P1 at c1 c2 HD2 HO2
                  generalize (e)[vB]! = P2 at c1 c2 HD2 HO2
                  clear D O
                  go_wp2_with fail
                  go_region
                  clear c1 c2 f1 f2
                  have D := HD2.out
                  have O := HO2.out
                  clear HD2 HO2
                  generalize (((WB).setCell ⟨g, uA, none⟩ (.int .u32 P2)).setCell ⟨g, vB, none⟩ (.int .u32 P1)).drew = W8 at *
                  go_wp2_with fail
                  go_loopw [10, 11] (fun v1 v2 wr => ∃ (x y : Nat) (e : Array Int), v1 = .int .i64 x ∧ v2 = .int .i64 y ∧ a < x ∧ x ≤ y + 1 ∧ y < b ∧ DAt wr g e ∧ Off (· = g) w wr ∧ e.size = d.size ∧ Hid (partLoop ltU a x y e = R3)) (fun v1 v2 _ => (intOf v2).toNat + 1 - (intOf v1).toNat)
                  case atStart => exact ⟨uA + 1, vB - 1, swp e uA vB, by go_num, by go_num, by omega, by omega, by omega, D, O, by rw [swp_size]; exact hes, HR⟩
                  case round =>
                    clear D O HR
                    clear hx hy hxi hyi huA0 huA1 hvB0 hvB1 hq hgt hgz hne hb1 hb2 hle hes HU HX
                    obtain ⟨x, y, e, rfl, rfl, hax, hxy, hyb, D, O, hes, HR⟩ := hrel
                    go_wp2_with fail
                    go_loopw [10] (fun v wr => ∃ uC : Nat, v = .int .i64 uC ∧ x ≤ uC ∧ uC ≤ y + 1 ∧ DAt wr g e ∧ Off (· = g) w wr ∧ Hid (scanUp (fun z => ltU z e[a]!) e y uC = scanUp (fun z => ltU z e[a]!) e y x)) (fun v _ => y + 1 - (intOf v).toNat)
                    case atStart => exact ⟨x, by first | rfl | go_num, Nat.le_refl _, by omega, D, O, Lib.hid rfl⟩
                    case round =>
                      clear D O
                      obtain ⟨uC, rfl, huC0, huC1, D, O, HSC⟩ := hrel
                      have hg := gcell
                      have hgl := D.lt
                      by_cases hle : uC ≤ y
                      · have q0 : decide ((uC : Int) ≤ (y : Int)) = true := decide_eq_true (by omega)
                        have c1 := D.c uC (by omega)
                        have c2 := D.c a (by omega)
                        have HD := Lib.hid D
                        have HO := Lib.hid O
                        clear D O
                        cases hq : ltU e[uC]! e[a]!
                        · have CL := Lib.hid (fun w' => sLessB _ _ _ hq w')
                          have HX := Lib.hid (show scanUp (fun z => ltU z e[a]!) e y x = uC by rw [← HSC.out, scanUp.eq_def, if_neg (by simp [hq])])
                          clear hq HSC
                          go_wp2_with fail
                          refine wp_region_quiet_below (by kernel_rfl) (by kernel_rfl) ?_
                          repeat (go_big_quiet_step (first | (go_at_call 82; exact Calls.regrown_of (CL.out _))))
                          refine wpQuiet_nil ?_
                          intro _ hw'
                          obtain ⟨⟨dq, osq⟩, hw''⟩ := hw'
                          subst hw''
                          have hbr := below_regrown wr dq osq
                          have D := HD.out.below hbr
                          have O := HO.out.trans (Off.ofBelow hbr)
                          clear hbr HD HO CL hg hgl c1 c2 q0
                          dsimp only at D O ⊢
                          generalize grow (redrawn wr dq) osq = WC at *
                          have HU := HX
                          clear HX
                          go_wp2_with fail
                          go_loopw [11] (fun v wr => ∃ vD : Nat, v = .int .i64 vD ∧ vD ≤ y ∧ uC ≤ vD + 1 ∧ DAt wr g e ∧ Off (· = g) w wr ∧ Hid (scanDown (fun z => !ltU z e[a]!) e uC vD = scanDown (fun z => !ltU z e[a]!) e uC y)) (fun v _ => (intOf v).toNat)
                          case atStart => exact ⟨y, by first | rfl | go_num, Nat.le_refl _, by omega, D, O, Lib.hid rfl⟩
                          case round =>
                            clear D O
                            obtain ⟨vD, rfl, hvD0, hvD1, D, O, HSD⟩ := hrel
                            have hg := gcell
                            have hgl := D.lt
                            by_cases hle : uC ≤ vD
                            · have q0 : decide ((uC : Int) ≤ (vD : Int)) = true := decide_eq_true (by omega)
                              obtain ⟨vDp, hvDp⟩ : ∃ z, vD = z + 1 := ⟨vD - 1, by omega⟩
                              have c1 := D.c vD (by omega)
                              have c2 := D.c a (by omega)
                              have HD := Lib.hid D
                              have HO := Lib.hid O
                              clear D O
                              cases hq : ltU e[vD]! e[a]!
                              · have CL := Lib.hid (fun w' => sLessB _ _ _ hq w')
                                have HX := Lib.hid (show scanDown (fun z => !ltU z e[a]!) e uC vDp = scanDown (fun z => !ltU z e[a]!) e uC y by
                                  rw [← HSD.out, hvDp]
                                  conv => rhs; unfold scanDown
                                  rw [← hvDp, if_pos (by simp [hle, hq])])
                                have ez : (vD : Int) - 1 = (vDp : Int) := by omega
                                clear hq hvDp
                                go_wp2_with fail
                                refine wp_region_quiet_below (by kernel_rfl) (by kernel_rfl) ?_
                                repeat (go_big_quiet_step (first | (go_at_call 82; exact Calls.regrown_of (CL.out _))))
                                refine wpQuiet_nil ?_
                                intro _ hw'
                                obtain ⟨⟨dq, osq⟩, hw''⟩ := hw'
                                subst hw''
                                have hbr := below_regrown wr dq osq
                                have D1 := HD.out.below hbr
                                have O1 := HO.out.trans (Off.ofBelow hbr)
                                clear hbr
                                go_wp2_with fail
                                go_roundw
                                case rel => exact ⟨vDp, by go_num, by omega, by omega, D1, O1, HX⟩
                                case measure => simp [intOf]; omega
                              · have CL := Lib.hid (fun w' => sLessB _ _ _ hq w')
                                have HX := Lib.hid (show scanDown (fun z => !ltU z e[a]!) e uC y = vD by rw [← HSD.out, hvDp]; unfold scanDown; rw [← hvDp, if_neg (by simp [hq])])
                                clear hq HSD hvDp
                                go_wp2_with fail
                                refine wp_region_quiet_below (by kernel_rfl) (by kernel_rfl) ?_
                                repeat (go_big_quiet_step (first | (go_at_call 82; exact Calls.regrown_of (CL.out _))))
                                refine wpQuiet_nil ?_
                                intro _ hw'
                                obtain ⟨⟨dq, osq⟩, hw''⟩ := hw'
                                subst hw''
                                have hbr := below_regrown wr dq osq
                                have D := HD.out.below hbr
                                have O := HO.out.trans (Off.ofBelow hbr)
                                clear hbr HD HO CL hg hgl c1 c2 q0
                                dsimp only at D O ⊢
                                generalize grow (redrawn wr dq) osq = WD at *
                                have HN := Lib.hid (show partLoop ltU a x y e = if uC > vD then (vD, e) else partLoop ltU a (uC + 1) (vD - 1) (swp e uC vD) by rw [partLoop_eq]; simp only [HU.out, HX.out])
                                by_cases hgt : vD < uC
                                · have HN2 := Lib.hid (show (vD, false, swp e vD a) = R by rw [← HF.out, ← HR.out, HN.out, if_pos hgt])
                                  have hgz : (vD : Int) < (uC : Int) := by omega
                                  clear HR HN
                                  rcases (show vD = a ∨ a < vD by omega) with hqa | hqa
                                  · have hqv : vD = a := by omega
                                    have hb1 : vD < d.size := by omega
                                    clear hqa
                                    subst hqv
                                    have c1 := D.c vD (by omega)
                                    have c2 := D.c vD (by omega)
                                    have f1 := D.f vD (by omega)
                                    have f2 := D.f vD (by omega)
                                    have HD2 := Lib.hid ((D.swap vD vD (by omega) (by omega)).kept (w' := (((WD).setCell ⟨g, vD, none⟩ (.int .u32 (e)[vD]!)).setCell ⟨g, vD, none⟩ (.int .u32 (e)[vD]!)).drew) rfl (Nat.le_refl _))
                                    have HO2 := Lib.hid ((O.trans (off_swap (WD) g vD vD (.int .u32 (e)[vD]!) (.int .u32 (e)[vD]!))).trans (off_drew _))
                                    generalize (e)[vD]! = P1 at c1 c2 HD2 HO2
                                    clear D O
                                    go_wp2_with fail
                                    go_region
                                    all_goals
                                      clear c1 c2 f1 f2
                                      have D := HD2.out
                                      have O := HO2.out
                                      clear HD2 HO2
                                      generalize (((WD).setCell ⟨g, vD, none⟩ (.int .u32 P1)).setCell ⟨g, vD, none⟩ (.int .u32 P1)).drew = W9 at *
                                      have HD := Lib.hid D
                                      have HO := Lib.hid O
                                      clear D O
                                      go_wp2_with fail
                                      go_ret2
                                      exact ⟨by rw [← HN2.out]; rfl, by rw [← HN2.out]; exact HD.out, HO.out⟩
                                  · have hne : vD ≠ a := by omega
                                    have hb1 : vD < d.size := by omega
                                    have hb2 : a < d.size := by omega
                                    have c1 := D.c vD (by omega)
                                    have c2 := D.c a (by omega)
                                    have f1 := D.f vD (by omega)
                                    have f2 := D.f a (by omega)
                                    have HD2 := Lib.hid ((D.swap vD a (by omega) (by omega)).kept (w' := (((WD).setCell ⟨g, vD, none⟩ (.int .u32 (e)[a]!)).setCell ⟨g, a, none⟩ (.int .u32 (e)[vD]!)).drew) rfl (Nat.le_refl _))
                                    have HO2 := Lib.hid ((O.trans (off_swap (WD) g vD a (.int .u32 (e)[a]!) (.int .u32 (e)[vD]!))).trans (off_drew _))
                                    generalize (e)[vD]! = P1 at c1 c2 HD2 HO2
                                    generalize (e)[a]! = P2 at c1 c2 HD2 HO2
                                    clear D O
                                    go_wp2_with fail
                                    go_region
                                    all_goals
                                      clear c1 c2 f1 f2
                                      have D := HD2.out
                                      have O := HO2.out
                                      clear HD2 HO2
                                      generalize (((WD).setCell ⟨g, vD, none⟩ (.int .u32 P2)).setCell ⟨g, a, none⟩ (.int .u32 P1)).drew = W9 at *
                                      have HD := Lib.hid D
                                      have HO := Lib.hid O
                                      clear D O
                                      go_wp2_with fail
                                      go_ret2
                                      exact ⟨by rw [← HN2.out]; rfl, by rw [← HN2.out]; exact HD.out, HO.out⟩
                                · have HN2 := Lib.hid (show partLoop ltU a (uC + 1) (vD - 1) (swp e uC vD) = R3 by rw [← HR.out, HN.out, if_neg hgt])
                                  have hgz : ¬ (vD : Int) < (uC : Int) := by omega
                                  clear HR HN
                                  have hq : uC < vD := by have := scans_apart _ _ (fun z => by simp) e y x uC vD HU.out HX.out (by omega) (by omega) (by omega); omega
                                  have hne : uC ≠ vD := by omega
                                  have hb1 : uC < d.size := by omega
                                  have hb2 : vD < d.size := by omega
                                  have c1 := D.c uC (by omega)
                                  have c2 := D.c vD (by omega)
                                  have f1 := D.f uC (by omega)
                                  have f2 := D.f vD (by omega)
                                  have HD2 := Lib.hid ((D.swap uC vD (by omega) (by omega)).kept (w' := (((WD).setCell ⟨g, uC, none⟩ (.int .u32 (e)[vD]!)).setCell ⟨g, vD, none⟩ (.int .u32 (e)[uC]!)).drew) rfl (Nat.le_refl _))
                                  have HO2 := Lib.hid ((O.trans (off_swap (WD) g uC vD (.int .u32 (e)[vD]!) (.int .u32 (e)[uC]!))).trans (off_drew _))
                                  generalize (e)[uC]! = P1 at c1 c2 HD2 HO2
                                  generalize (e)[vD]! = P2 at c1 c2 HD2 HO2
                                  clear D O
                                  go_wp2_with fail
                                  go_region
                                  clear c1 c2 f1 f2
                                  have D := HD2.out
                                  have O := HO2.out
                                  clear HD2 HO2
                                  generalize (((WD).setCell ⟨g, uC, none⟩ (.int .u32 P2)).setCell ⟨g, vD, none⟩ (.int .u32 P1)).drew = W9 at *
                                  go_wp2_with fail
                                  go_roundw
                                  case rel => exact ⟨uC + 1, vD - 1, swp e uC vD, by go_num, by go_num, by omega, by omega, by omega, D, O, by rw [swp_size]; exact hes, HN2⟩
                                  case measure => simp [intOf]; omega
                            · have q0 : decide ((uC : Int) ≤ (vD : Int)) = false := decide_eq_false (by omega)
                              have HX := Lib.hid (show scanDown (fun z => !ltU z e[a]!) e uC y = vD by
                                rw [← HSD.out]
                                cases vD with
                                | zero => rfl
                                | succ z => unfold scanDown; rw [if_neg (by simp; omega)])
                              clear HSD
                              have HD := Lib.hid D
                              have HO := Lib.hid O
                              clear D O
                              go_wp2_with fail
                              refine wp_region_quiet_below (by kernel_rfl) (by kernel_rfl) ?_
                              repeat (go_big_quiet_step (fail))
                              refine wpQuiet_nil ?_
                              intro _ hw'
                              obtain ⟨⟨dq, osq⟩, hw''⟩ := hw'
                              subst hw''
                              have hbr := below_regrown wr dq osq
                              have D := HD.out.below hbr
                              have O := HO.out.trans (Off.ofBelow hbr)
                              clear hbr HD HO hg hgl q0
                              dsimp only at D O ⊢
                              generalize grow (redrawn wr dq) osq = WD at *
                              have HN := Lib.hid (show partLoop ltU a x y e = if uC > vD then (vD, e) else partLoop ltU a (uC + 1) (vD - 1) (swp e uC vD) by rw [partLoop_eq]; simp only [HU.out, HX.out])
                              by_cases hgt : vD < uC
                              · have HN2 := Lib.hid (show (vD, false, swp e vD a) = R by rw [← HF.out, ← HR.out, HN.out, if_pos hgt])
                                have hgz : (vD : Int) < (uC : Int) := by omega
                                clear HR HN
                                rcases (show vD = a ∨ a < vD by omega) with hqa | hqa
                                · have hqv : vD = a := by omega
                                  have hb1 : vD < d.size := by omega
                                  clear hqa
                                  subst hqv
                                  have c1 := D.c vD (by omega)
                                  have c2 := D.c vD (by omega)
                                  have f1 := D.f vD (by omega)
                                  have f2 := D.f vD (by omega)
                                  have HD2 := Lib.hid ((D.swap vD vD (by omega) (by omega)).kept (w' := (((WD).setCell ⟨g, vD, none⟩ (.int .u32 (e)[vD]!)).setCell ⟨g, vD, none⟩ (.int .u32 (e)[vD]!)).drew) rfl (Nat.le_refl _))
                                  have HO2 := Lib.hid ((O.trans (off_swap (WD) g vD vD (.int .u32 (e)[vD]!) (.int .u32 (e)[vD]!))).trans (off_drew _))
                                  generalize (e)[vD]! = P1 at c1 c2 HD2 HO2
                                  clear D O
                                  go_wp2_with fail
                                  go_region
                                  all_goals
                                    clear c1 c2 f1 f2
                                    have D := HD2.out
                                    have O := HO2.out
                                    clear HD2 HO2
                                    generalize (((WD).setCell ⟨g, vD, none⟩ (.int .u32 P1)).setCell ⟨g, vD, none⟩ (.int .u32 P1)).drew = W9 at *
                                    have HD := Lib.hid D
                                    have HO := Lib.hid O
                                    clear D O
                                    go_wp2_with fail
                                    go_ret2
                                    exact ⟨by rw [← HN2.out]; rfl, by rw [← HN2.out]; exact HD.out, HO.out⟩
                                · have hne : vD ≠ a := by omega
                                  have hb1 : vD < d.size := by omega
                                  have hb2 : a < d.size := by omega
                                  have c1 := D.c vD (by omega)
                                  have c2 := D.c a (by omega)
                                  have f1 := D.f vD (by omega)
                                  have f2 := D.f a (by omega)
                                  have HD2 := Lib.hid ((D.swap vD a (by omega) (by omega)).kept (w' := (((WD).setCell ⟨g, vD, none⟩ (.int .u32 (e)[a]!)).setCell ⟨g, a, none⟩ (.int .u32 (e)[vD]!)).drew) rfl (Nat.le_refl _))
                                  have HO2 := Lib.hid ((O.trans (off_swap (WD) g vD a (.int .u32 (e)[a]!) (.int .u32 (e)[vD]!))).trans (off_drew _))
                                  generalize (e)[vD]! = P1 at c1 c2 HD2 HO2
                                  generalize (e)[a]! = P2 at c1 c2 HD2 HO2
                                  clear D O
                                  go_wp2_with fail
                                  go_region
                                  all_goals
                                    clear c1 c2 f1 f2
                                    have D := HD2.out
                                    have O := HO2.out
                                    clear HD2 HO2
                                    generalize (((WD).setCell ⟨g, vD, none⟩ (.int .u32 P2)).setCell ⟨g, a, none⟩ (.int .u32 P1)).drew = W9 at *
                                    have HD := Lib.hid D
                                    have HO := Lib.hid O
                                    clear D O
                                    go_wp2_with fail
                                    go_ret2
                                    exact ⟨by rw [← HN2.out]; rfl, by rw [← HN2.out]; exact HD.out, HO.out⟩
                              · exact absurd hle (by omega)
                        · have CL := Lib.hid (fun w' => sLessB _ _ _ hq w')
                          have HX := Lib.hid (show scanUp (fun z => ltU z e[a]!) e y (uC + 1) = scanUp (fun z => ltU z e[a]!) e y x by
                            rw [← HSC.out]
                            conv => rhs; rw [scanUp.eq_def]
                            rw [if_pos (by simp [hle, hq])])
                          clear hq
                          go_wp2_with fail
                          refine wp_region_quiet_below (by kernel_rfl) (by kernel_rfl) ?_
                          repeat (go_big_quiet_step (first | (go_at_call 82; exact Calls.regrown_of (CL.out _))))
                          refine wpQuiet_nil ?_
                          intro _ hw'
                          obtain ⟨⟨dq, osq⟩, hw''⟩ := hw'
                          subst hw''
                          have hbr := below_regrown wr dq osq
                          have D1 := HD.out.below hbr
                          have O1 := HO.out.trans (Off.ofBelow hbr)
                          clear hbr
                          go_wp2_with fail
                          go_roundw
                          case rel => exact ⟨uC + 1, by go_num, by omega, by omega, D1, O1, HX⟩
                          case measure => simp [intOf]; omega
                      · have q0 : decide ((uC : Int) ≤ (y : Int)) = false := decide_eq_false (by omega)
                        have HX := Lib.hid (show scanUp (fun z => ltU z e[a]!) e y x = uC by rw [← HSC.out, scanUp.eq_def, if_neg (by simp [hle])])
                        clear HSC
                        have HD := Lib.hid D
                        have HO := Lib.hid O
                        clear D O
                        go_wp2_with fail
                        refine wp_region_quiet_below (by kernel_rfl) (by kernel_rfl) ?_
                        repeat (go_big_quiet_step (fail))
                        refine wpQuiet_nil ?_
                        intro _ hw'
                        obtain ⟨⟨dq, osq⟩, hw''⟩ := hw'
                        subst hw''
                        have hbr := below_regrown wr dq osq
                        have D := HD.out.below hbr
                        have O := HO.out.trans (Off.ofBelow hbr)
                        clear hbr HD HO hg hgl q0
                        dsimp only at D O ⊢
                        generalize grow (redrawn wr dq) osq = WC at *
                        have HU := HX
                        clear HX
                        go_wp2_with fail
                        go_loopw [11] (fun v wr => ∃ vD : Nat, v = .int .i64 vD ∧ vD ≤ y ∧ uC ≤ vD + 1 ∧ DAt wr g e ∧ Off (· = g) w wr ∧ Hid (scanDown (fun z => !ltU z e[a]!) e uC vD = scanDown (fun z => !ltU z e[a]!) e uC y)) (fun v _ => (intOf v).toNat)
                        case atStart => exact ⟨y, by first | rfl | go_num, Nat.le_refl _, by omega, D, O, Lib.hid rfl⟩
                        case round =>
                          clear D O
                          obtain ⟨vD, rfl, hvD0, hvD1, D, O, HSD⟩ := hrel
                          have hg := gcell
                          have hgl := D.lt
                          by_cases hle : uC ≤ vD
                          · exfalso; omega
                          · have q0 : decide ((uC : Int) ≤ (vD : Int)) = false := decide_eq_false (by omega)
                            have HX := Lib.hid (show scanDown (fun z => !ltU z e[a]!) e uC y = vD by
                              rw [← HSD.out]
                              cases vD with
                              | zero => rfl
                              | succ z => unfold scanDown; rw [if_neg (by simp; omega)])
                            clear HSD
                            have HD := Lib.hid D
                            have HO := Lib.hid O
                            clear D O
                            go_wp2_with fail
                            refine wp_region_quiet_below (by kernel_rfl) (by kernel_rfl) ?_
                            repeat (go_big_quiet_step (fail))
                            refine wpQuiet_nil ?_
                            intro _ hw'
                            obtain ⟨⟨dq, osq⟩, hw''⟩ := hw'
                            subst hw''
                            have hbr := below_regrown wr dq osq
                            have D := HD.out.below hbr
                            have O := HO.out.trans (Off.ofBelow hbr)
                            clear hbr HD HO hg hgl q0
                            dsimp only at D O ⊢
                            generalize grow (redrawn wr dq) osq = WD at *
                            have HN := Lib.hid (show partLoop ltU a x y e = if uC > vD then (vD, e) else partLoop ltU a (uC + 1) (vD - 1) (swp e uC vD) by rw [partLoop_eq]; simp only [HU.out, HX.out])
                            by_cases hgt : vD < uC
                            · have HN2 := Lib.hid (show (vD, false, swp e vD a) = R by rw [← HF.out, ← HR.out, HN.out, if_pos hgt])
                              have hgz : (vD : Int) < (uC : Int) := by omega
                              clear HR HN
                              rcases (show vD = a ∨ a < vD by omega) with hqa | hqa
                              · have hqv : vD = a := by omega
                                have hb1 : vD < d.size := by omega
                                clear hqa
                                subst hqv
                                have c1 := D.c vD (by omega)
                                have c2 := D.c vD (by omega)
                                have f1 := D.f vD (by omega)
                                have f2 := D.f vD (by omega)
                                have HD2 := Lib.hid ((D.swap vD vD (by omega) (by omega)).kept (w' := (((WD).setCell ⟨g, vD, none⟩ (.int .u32 (e)[vD]!)).setCell ⟨g, vD, none⟩ (.int .u32 (e)[vD]!)).drew) rfl (Nat.le_refl _))
                                have HO2 := Lib.hid ((O.trans (off_swap (WD) g vD vD (.int .u32 (e)[vD]!) (.int .u32 (e)[vD]!))).trans (off_drew _))
                                generalize (e)[vD]! = P1 at c1 c2 HD2 HO2
                                clear D O
                                go_wp2_with fail
                                go_region
                                all_goals
                                  clear c1 c2 f1 f2
                                  have D := HD2.out
                                  have O := HO2.out
                                  clear HD2 HO2
                                  generalize (((WD).setCell ⟨g, vD, none⟩ (.int .u32 P1)).setCell ⟨g, vD, none⟩ (.int .u32 P1)).drew = W9 at *
                                  have HD := Lib.hid D
                                  have HO := Lib.hid O
                                  clear D O
                                  go_wp2_with fail
                                  go_ret2
                                  exact ⟨by rw [← HN2.out]; rfl, by rw [← HN2.out]; exact HD.out, HO.out⟩
                              · have hne : vD ≠ a := by omega
                                have hb1 : vD < d.size := by omega
                                have hb2 : a < d.size := by omega
                                have c1 := D.c vD (by omega)
                                have c2 := D.c a (by omega)
                                have f1 := D.f vD (by omega)
                                have f2 := D.f a (by omega)
                                have HD2 := Lib.hid ((D.swap vD a (by omega) (by omega)).kept (w' := (((WD).setCell ⟨g, vD, none⟩ (.int .u32 (e)[a]!)).setCell ⟨g, a, none⟩ (.int .u32 (e)[vD]!)).drew) rfl (Nat.le_refl _))
                                have HO2 := Lib.hid ((O.trans (off_swap (WD) g vD a (.int .u32 (e)[a]!) (.int .u32 (e)[vD]!))).trans (off_drew _))
                                generalize (e)[vD]! = P1 at c1 c2 HD2 HO2
                                generalize (e)[a]! = P2 at c1 c2 HD2 HO2
                                clear D O
                                go_wp2_with fail
                                go_region
                                all_goals
                                  clear c1 c2 f1 f2
                                  have D := HD2.out
                                  have O := HO2.out
                                  clear HD2 HO2
                                  generalize (((WD).setCell ⟨g, vD, none⟩ (.int .u32 P2)).setCell ⟨g, a, none⟩ (.int .u32 P1)).drew = W9 at *
                                  have HD := Lib.hid D
                                  have HO := Lib.hid O
                                  clear D O
                                  go_wp2_with fail
                                  go_ret2
                                  exact ⟨by rw [← HN2.out]; rfl, by rw [← HN2.out]; exact HD.out, HO.out⟩
                            · exact absurd hle (by omega)
            · have q0 : decide ((uA : Int) ≤ (vB : Int)) = false := decide_eq_false (by omega)
              have HX := Lib.hid (show scanDown (fun z => !ltU z e[a]!) e uA y = vB by
                rw [← HSB.out]
                cases vB with
                | zero => rfl
                | succ z => unfold scanDown; rw [if_neg (by simp; omega)])
              clear HSB
              have HD := Lib.hid D
              have HO := Lib.hid O
              clear D O
              go_wp2_with fail
              refine wp_region_quiet_below (by kernel_rfl) (by kernel_rfl) ?_
              repeat (go_big_quiet_step (fail))
              refine wpQuiet_nil ?_
              intro _ hw'
              obtain ⟨⟨dq, osq⟩, hw''⟩ := hw'
              subst hw''
              have hbr := below_regrown wr dq osq
              have D := HD.out.below hbr
              have O := HO.out.trans (Off.ofBelow hbr)
              clear hbr HD HO hg hgl q0
              dsimp only at D O ⊢
              generalize grow (redrawn wr dq) osq = WB at *
              have HN := Lib.hid (HP.out uA vB HU.out HX.out)
              by_cases hgt : vB < uA
              · have HN2 := Lib.hid (show (vB, true, swp e vB a) = R by rw [HN.out, if_pos hgt])
                have hgz : (vB : Int) < (uA : Int) := by omega
                clear HN HP
                rcases (show vB = a ∨ a < vB by omega) with hqa | hqa
                · have hqv : vB = a := by omega
                  have hb1 : vB < d.size := by omega
                  clear hqa
                  subst hqv
                  have c1 := D.c vB (by omega)
                  have c2 := D.c vB (by omega)
                  have f1 := D.f vB (by omega)
                  have f2 := D.f vB (by omega)
                  have HD2 := Lib.hid ((D.swap vB vB (by omega) (by omega)).kept (w' := (((WB).setCell ⟨g, vB, none⟩ (.int .u32 (e)[vB]!)).setCell ⟨g, vB, none⟩ (.int .u32 (e)[vB]!)).drew) rfl (Nat.le_refl _))
                  have HO2 := Lib.hid ((O.trans (off_swap (WB) g vB vB (.int .u32 (e)[vB]!) (.int .u32 (e)[vB]!))).trans (off_drew _))
                  generalize (e)[vB]! = P1 at c1 c2 HD2 HO2
                  clear D O
                  go_wp2_with fail
                  go_region
                  all_goals
                    clear c1 c2 f1 f2
                    have D := HD2.out
                    have O := HO2.out
                    clear HD2 HO2
                    generalize (((WB).setCell ⟨g, vB, none⟩ (.int .u32 P1)).setCell ⟨g, vB, none⟩ (.int .u32 P1)).drew = W9 at *
                    have HD := Lib.hid D
                    have HO := Lib.hid O
                    clear D O
                    go_wp2_with fail
                    go_ret2
                    exact ⟨by rw [← HN2.out]; rfl, by rw [← HN2.out]; exact HD.out, HO.out⟩
                · have hne : vB ≠ a := by omega
                  have hb1 : vB < d.size := by omega
                  have hb2 : a < d.size := by omega
                  have c1 := D.c vB (by omega)
                  have c2 := D.c a (by omega)
                  have f1 := D.f vB (by omega)
                  have f2 := D.f a (by omega)
                  have HD2 := Lib.hid ((D.swap vB a (by omega) (by omega)).kept (w' := (((WB).setCell ⟨g, vB, none⟩ (.int .u32 (e)[a]!)).setCell ⟨g, a, none⟩ (.int .u32 (e)[vB]!)).drew) rfl (Nat.le_refl _))
                  have HO2 := Lib.hid ((O.trans (off_swap (WB) g vB a (.int .u32 (e)[a]!) (.int .u32 (e)[vB]!))).trans (off_drew _))
                  generalize (e)[vB]! = P1 at c1 c2 HD2 HO2
                  generalize (e)[a]! = P2 at c1 c2 HD2 HO2
                  clear D O
                  go_wp2_with fail
                  go_region
                  all_goals
                    clear c1 c2 f1 f2
                    have D := HD2.out
                    have O := HO2.out
                    clear HD2 HO2
                    generalize (((WB).setCell ⟨g, vB, none⟩ (.int .u32 P2)).setCell ⟨g, a, none⟩ (.int .u32 P1)).drew = W9 at *
                    have HD := Lib.hid D
                    have HO := Lib.hid O
                    clear D O
                    go_wp2_with fail
                    go_ret2
                    exact ⟨by rw [← HN2.out]; rfl, by rw [← HN2.out]; exact HD.out, HO.out⟩
              · exact absurd hle (by omega)
        · have CL := Lib.hid (fun w' => sLessB _ _ _ hq w')
          have HX := Lib.hid (show scanUp (fun z => ltU z e[a]!) e y (uA + 1) = scanUp (fun z => ltU z e[a]!) e y x by
            rw [← HSA.out]
            conv => rhs; rw [scanUp.eq_def]
            rw [if_pos (by simp [hle, hq])])
          clear hq
          go_wp2_with fail
          refine wp_region_quiet_below (by kernel_rfl) (by kernel_rfl) ?_
          repeat (go_big_quiet_step (first | (go_at_call 82; exact Calls.regrown_of (CL.out _))))
          refine wpQuiet_nil ?_
          intro _ hw'
          obtain ⟨⟨dq, osq⟩, hw''⟩ := hw'
          subst hw''
          have hbr := below_regrown wr dq osq
          have D1 := HD.out.below hbr
          have O1 := HO.out.trans (Off.ofBelow hbr)
          clear hbr
          go_wp2_with fail
          go_roundw
          case rel => exact ⟨uA + 1, by go_num, by omega, by omega, D1, O1, HX⟩
          case measure => simp [intOf]; omega
      · have q0 : decide ((uA : Int) ≤ (y : Int)) = false := decide_eq_false (by omega)
        have HX := Lib.hid (show scanUp (fun z => ltU z e[a]!) e y x = uA by rw [← HSA.out, scanUp.eq_def, if_neg (by simp [hle])])
        clear HSA
        have HD := Lib.hid D
        have HO := Lib.hid O
        clear D O
        go_wp2_with fail
        refine wp_region_quiet_below (by kernel_rfl) (by kernel_rfl) ?_
        repeat (go_big_quiet_step (fail))
        refine wpQuiet_nil ?_
        intro _ hw'
        obtain ⟨⟨dq, osq⟩, hw''⟩ := hw'
        subst hw''
        have hbr := below_regrown wr dq osq
        have D := HD.out.below hbr
        have O := HO.out.trans (Off.ofBelow hbr)
        clear hbr HD HO hg hgl q0
        dsimp only at D O ⊢
        generalize grow (redrawn wr dq) osq = WA at *
        have HU := HX
        clear HX
        go_wp2_with fail
        go_loopw [11] (fun v wr => ∃ vB : Nat, v = .int .i64 vB ∧ vB ≤ y ∧ uA ≤ vB + 1 ∧ DAt wr g e ∧ Off (· = g) w wr ∧ Hid (scanDown (fun z => !ltU z e[a]!) e uA vB = scanDown (fun z => !ltU z e[a]!) e uA y)) (fun v _ => (intOf v).toNat)
        case atStart => exact ⟨y, by first | rfl | go_num, Nat.le_refl _, by omega, D, O, Lib.hid rfl⟩
        case round =>
          clear D O
          obtain ⟨vB, rfl, hvB0, hvB1, D, O, HSB⟩ := hrel
          have hg := gcell
          have hgl := D.lt
          by_cases hle : uA ≤ vB
          · exfalso; omega
          · have q0 : decide ((uA : Int) ≤ (vB : Int)) = false := decide_eq_false (by omega)
            have HX := Lib.hid (show scanDown (fun z => !ltU z e[a]!) e uA y = vB by
              rw [← HSB.out]
              cases vB with
              | zero => rfl
              | succ z => unfold scanDown; rw [if_neg (by simp; omega)])
            clear HSB
            have HD := Lib.hid D
            have HO := Lib.hid O
            clear D O
            go_wp2_with fail
            refine wp_region_quiet_below (by kernel_rfl) (by kernel_rfl) ?_
            repeat (go_big_quiet_step (fail))
            refine wpQuiet_nil ?_
            intro _ hw'
            obtain ⟨⟨dq, osq⟩, hw''⟩ := hw'
            subst hw''
            have hbr := below_regrown wr dq osq
            have D := HD.out.below hbr
            have O := HO.out.trans (Off.ofBelow hbr)
            clear hbr HD HO hg hgl q0
            dsimp only at D O ⊢
            generalize grow (redrawn wr dq) osq = WB at *
            have HN := Lib.hid (HP.out uA vB HU.out HX.out)
            by_cases hgt : vB < uA
            · have HN2 := Lib.hid (show (vB, true, swp e vB a) = R by rw [HN.out, if_pos hgt])
              have hgz : (vB : Int) < (uA : Int) := by omega
              clear HN HP
              rcases (show vB = a ∨ a < vB by omega) with hqa | hqa
              · have hqv : vB = a := by omega
                have hb1 : vB < d.size := by omega
                clear hqa
                subst hqv
                have c1 := D.c vB (by omega)
                have c2 := D.c vB (by omega)
                have f1 := D.f vB (by omega)
                have f2 := D.f vB (by omega)
                have HD2 := Lib.hid ((D.swap vB vB (by omega) (by omega)).kept (w' := (((WB).setCell ⟨g, vB, none⟩ (.int .u32 (e)[vB]!)).setCell ⟨g, vB, none⟩ (.int .u32 (e)[vB]!)).drew) rfl (Nat.le_refl _))
                have HO2 := Lib.hid ((O.trans (off_swap (WB) g vB vB (.int .u32 (e)[vB]!) (.int .u32 (e)[vB]!))).trans (off_drew _))
                generalize (e)[vB]! = P1 at c1 c2 HD2 HO2
                clear D O
                go_wp2_with fail
                go_region
                all_goals
                  clear c1 c2 f1 f2
                  have D := HD2.out
                  have O := HO2.out
                  clear HD2 HO2
                  generalize (((WB).setCell ⟨g, vB, none⟩ (.int .u32 P1)).setCell ⟨g, vB, none⟩ (.int .u32 P1)).drew = W9 at *
                  have HD := Lib.hid D
                  have HO := Lib.hid O
                  clear D O
                  go_wp2_with fail
                  go_ret2
                  exact ⟨by rw [← HN2.out]; rfl, by rw [← HN2.out]; exact HD.out, HO.out⟩
              · have hne : vB ≠ a := by omega
                have hb1 : vB < d.size := by omega
                have hb2 : a < d.size := by omega
                have c1 := D.c vB (by omega)
                have c2 := D.c a (by omega)
                have f1 := D.f vB (by omega)
                have f2 := D.f a (by omega)
                have HD2 := Lib.hid ((D.swap vB a (by omega) (by omega)).kept (w' := (((WB).setCell ⟨g, vB, none⟩ (.int .u32 (e)[a]!)).setCell ⟨g, a, none⟩ (.int .u32 (e)[vB]!)).drew) rfl (Nat.le_refl _))
                have HO2 := Lib.hid ((O.trans (off_swap (WB) g vB a (.int .u32 (e)[a]!) (.int .u32 (e)[vB]!))).trans (off_drew _))
                generalize (e)[vB]! = P1 at c1 c2 HD2 HO2
                generalize (e)[a]! = P2 at c1 c2 HD2 HO2
                clear D O
                go_wp2_with fail
                go_region
                all_goals
                  clear c1 c2 f1 f2
                  have D := HD2.out
                  have O := HO2.out
                  clear HD2 HO2
                  generalize (((WB).setCell ⟨g, vB, none⟩ (.int .u32 P2)).setCell ⟨g, a, none⟩ (.int .u32 P1)).drew = W9 at *
                  have HD := Lib.hid D
                  have HO := Lib.hid O
                  clear D O
                  go_wp2_with fail
                  go_ret2
                  exact ⟨by rw [← HN2.out]; rfl, by rw [← HN2.out]; exact HD.out, HO.out⟩
            · exact absurd hle (by omega)
  · have hne : a ≠ p := by omega
    go_enter Try.func84, Try.ntmps84
    have c1 := D.c a (by omega)
    have c2 := D.c p (by omega)
    have f1 := D.f a (by omega)
    have f2 := D.f p (by omega)
    have HD2 := Lib.hid ((D.swap a p (by omega) (by omega)).kept (w' := (((w).setCell ⟨g, a, none⟩ (.int .u32 (d)[p]!)).setCell ⟨g, p, none⟩ (.int .u32 (d)[a]!)).drew) rfl (Nat.le_refl _))
    have HO2 := Lib.hid ((O.trans (off_swap (w) g a p (.int .u32 (d)[p]!) (.int .u32 (d)[a]!))).trans (off_drew _))
    generalize (d)[a]! = P1 at c1 c2 HD2 HO2
    generalize (d)[p]! = P2 at c1 c2 HD2 HO2
    clear D O
    go_wp2_with fail
    go_region
    clear c1 c2 f1 f2
    have D := HD2.out
    have O := HO2.out
    clear HD2 HO2
    generalize (((w).setCell ⟨g, a, none⟩ (.int .u32 P2)).setCell ⟨g, p, none⟩ (.int .u32 P1)).drew = W1 at *
    have hes : (swp d a p).size = d.size := swp_size d a p
    have HP := Lib.hid (HP0.out (swp d a p) rfl)
    clear HP0
    generalize swp d a p = e at *
    clear hne hq
    go_wp2_with fail
    go_loopw [10] (fun v wr => ∃ uA : Nat, v = .int .i64 uA ∧ x ≤ uA ∧ uA ≤ y + 1 ∧ DAt wr g e ∧ Off (· = g) w wr ∧ Hid (scanUp (fun z => ltU z e[a]!) e y uA = scanUp (fun z => ltU z e[a]!) e y x)) (fun v _ => y + 1 - (intOf v).toNat)
    case atStart => exact ⟨x, by first | rfl | go_num, Nat.le_refl _, by omega, D, O, Lib.hid rfl⟩
    case round =>
      clear D O
      obtain ⟨uA, rfl, huA0, huA1, D, O, HSA⟩ := hrel
      have hg := gcell
      have hgl := D.lt
      by_cases hle : uA ≤ y
      · have q0 : decide ((uA : Int) ≤ (y : Int)) = true := decide_eq_true (by omega)
        have c1 := D.c uA (by omega)
        have c2 := D.c a (by omega)
        have HD := Lib.hid D
        have HO := Lib.hid O
        clear D O
        cases hq : ltU e[uA]! e[a]!
        · have CL := Lib.hid (fun w' => sLessB _ _ _ hq w')
          have HX := Lib.hid (show scanUp (fun z => ltU z e[a]!) e y x = uA by rw [← HSA.out, scanUp.eq_def, if_neg (by simp [hq])])
          clear hq HSA
          go_wp2_with fail
          refine wp_region_quiet_below (by kernel_rfl) (by kernel_rfl) ?_
          repeat (go_big_quiet_step (first | (go_at_call 82; exact Calls.regrown_of (CL.out _))))
          refine wpQuiet_nil ?_
          intro _ hw'
          obtain ⟨⟨dq, osq⟩, hw''⟩ := hw'
          subst hw''
          have hbr := below_regrown wr dq osq
          have D := HD.out.below hbr
          have O := HO.out.trans (Off.ofBelow hbr)
          clear hbr HD HO CL hg hgl c1 c2 q0
          dsimp only at D O ⊢
          generalize grow (redrawn wr dq) osq = WA at *
          have HU := HX
          clear HX
          go_wp2_with fail
          go_loopw [11] (fun v wr => ∃ vB : Nat, v = .int .i64 vB ∧ vB ≤ y ∧ uA ≤ vB + 1 ∧ DAt wr g e ∧ Off (· = g) w wr ∧ Hid (scanDown (fun z => !ltU z e[a]!) e uA vB = scanDown (fun z => !ltU z e[a]!) e uA y)) (fun v _ => (intOf v).toNat)
          case atStart => exact ⟨y, by first | rfl | go_num, Nat.le_refl _, by omega, D, O, Lib.hid rfl⟩
          case round =>
            clear D O
            obtain ⟨vB, rfl, hvB0, hvB1, D, O, HSB⟩ := hrel
            have hg := gcell
            have hgl := D.lt
            by_cases hle : uA ≤ vB
            · have q0 : decide ((uA : Int) ≤ (vB : Int)) = true := decide_eq_true (by omega)
              obtain ⟨vBp, hvBp⟩ : ∃ z, vB = z + 1 := ⟨vB - 1, by omega⟩
              have c1 := D.c vB (by omega)
              have c2 := D.c a (by omega)
              have HD := Lib.hid D
              have HO := Lib.hid O
              clear D O
              cases hq : ltU e[vB]! e[a]!
              · have CL := Lib.hid (fun w' => sLessB _ _ _ hq w')
                have HX := Lib.hid (show scanDown (fun z => !ltU z e[a]!) e uA vBp = scanDown (fun z => !ltU z e[a]!) e uA y by
                  rw [← HSB.out, hvBp]
                  conv => rhs; unfold scanDown
                  rw [← hvBp, if_pos (by simp [hle, hq])])
                have ez : (vB : Int) - 1 = (vBp : Int) := by omega
                clear hq hvBp
                go_wp2_with fail
                refine wp_region_quiet_below (by kernel_rfl) (by kernel_rfl) ?_
                repeat (go_big_quiet_step (first | (go_at_call 82; exact Calls.regrown_of (CL.out _))))
                refine wpQuiet_nil ?_
                intro _ hw'
                obtain ⟨⟨dq, osq⟩, hw''⟩ := hw'
                subst hw''
                have hbr := below_regrown wr dq osq
                have D1 := HD.out.below hbr
                have O1 := HO.out.trans (Off.ofBelow hbr)
                clear hbr
                go_wp2_with fail
                go_roundw
                case rel => exact ⟨vBp, by go_num, by omega, by omega, D1, O1, HX⟩
                case measure => simp [intOf]; omega
              · have CL := Lib.hid (fun w' => sLessB _ _ _ hq w')
                have HX := Lib.hid (show scanDown (fun z => !ltU z e[a]!) e uA y = vB by rw [← HSB.out, hvBp]; unfold scanDown; rw [← hvBp, if_neg (by simp [hq])])
                clear hq HSB hvBp
                go_wp2_with fail
                refine wp_region_quiet_below (by kernel_rfl) (by kernel_rfl) ?_
                repeat (go_big_quiet_step (first | (go_at_call 82; exact Calls.regrown_of (CL.out _))))
                refine wpQuiet_nil ?_
                intro _ hw'
                obtain ⟨⟨dq, osq⟩, hw''⟩ := hw'
                subst hw''
                have hbr := below_regrown wr dq osq
                have D := HD.out.below hbr
                have O := HO.out.trans (Off.ofBelow hbr)
                clear hbr HD HO CL hg hgl c1 c2 q0
                dsimp only at D O ⊢
                generalize grow (redrawn wr dq) osq = WB at *
                have HN := Lib.hid (HP.out uA vB HU.out HX.out)
                by_cases hgt : vB < uA
                · have HN2 := Lib.hid (show (vB, true, swp e vB a) = R by rw [HN.out, if_pos hgt])
                  have hgz : (vB : Int) < (uA : Int) := by omega
                  clear HN HP
                  rcases (show vB = a ∨ a < vB by omega) with hqa | hqa
                  · have hqv : vB = a := by omega
                    have hb1 : vB < d.size := by omega
                    clear hqa
                    subst hqv
                    have c1 := D.c vB (by omega)
                    have c2 := D.c vB (by omega)
                    have f1 := D.f vB (by omega)
                    have f2 := D.f vB (by omega)
                    have HD2 := Lib.hid ((D.swap vB vB (by omega) (by omega)).kept (w' := (((WB).setCell ⟨g, vB, none⟩ (.int .u32 (e)[vB]!)).setCell ⟨g, vB, none⟩ (.int .u32 (e)[vB]!)).drew) rfl (Nat.le_refl _))
                    have HO2 := Lib.hid ((O.trans (off_swap (WB) g vB vB (.int .u32 (e)[vB]!) (.int .u32 (e)[vB]!))).trans (off_drew _))
                    generalize (e)[vB]! = P1 at c1 c2 HD2 HO2
                    clear D O
                    go_wp2_with fail
                    go_region
                    all_goals
                      clear c1 c2 f1 f2
                      have D := HD2.out
                      have O := HO2.out
                      clear HD2 HO2
                      generalize (((WB).setCell ⟨g, vB, none⟩ (.int .u32 P1)).setCell ⟨g, vB, none⟩ (.int .u32 P1)).drew = W9 at *
                      have HD := Lib.hid D
                      have HO := Lib.hid O
                      clear D O
                      go_wp2_with fail
                      go_ret2
                      exact ⟨by rw [← HN2.out]; rfl, by rw [← HN2.out]; exact HD.out, HO.out⟩
                  · have hne : vB ≠ a := by omega
                    have hb1 : vB < d.size := by omega
                    have hb2 : a < d.size := by omega
                    have c1 := D.c vB (by omega)
                    have c2 := D.c a (by omega)
                    have f1 := D.f vB (by omega)
                    have f2 := D.f a (by omega)
                    have HD2 := Lib.hid ((D.swap vB a (by omega) (by omega)).kept (w' := (((WB).setCell ⟨g, vB, none⟩ (.int .u32 (e)[a]!)).setCell ⟨g, a, none⟩ (.int .u32 (e)[vB]!)).drew) rfl (Nat.le_refl _))
                    have HO2 := Lib.hid ((O.trans (off_swap (WB) g vB a (.int .u32 (e)[a]!) (.int .u32 (e)[vB]!))).trans (off_drew _))
                    generalize (e)[vB]! = P1 at c1 c2 HD2 HO2
                    generalize (e)[a]! = P2 at c1 c2 HD2 HO2
                    clear D O
                    go_wp2_with fail
                    go_region
                    all_goals
                      clear c1 c2 f1 f2
                      have D := HD2.out
                      have O := HO2.out
                      clear HD2 HO2
                      generalize (((WB).setCell ⟨g, vB, none⟩ (.int .u32 P2)).setCell ⟨g, a, none⟩ (.int .u32 P1)).drew = W9 at *
                      have HD := Lib.hid D
                      have HO := Lib.hid O
                      clear D O
                      go_wp2_with fail
                      go_ret2
                      exact ⟨by rw [← HN2.out]; rfl, by rw [← HN2.out]; exact HD.out, HO.out⟩
                · obtain ⟨R3, hR3⟩ : ∃ R3, partLoop ltU a (uA + 1) (vB - 1) (swp e uA vB) = R3 := ⟨_, rfl⟩
                  have HF := Lib.hid (show (R3.1, false, swp R3.2 R3.1 a) = R by rw [HN.out, if_neg hgt, hR3])
                  have HR := Lib.hid hR3
                  have hgz : ¬ (vB : Int) < (uA : Int) := by omega
                  clear HN hR3 HP
                  have hq : uA < vB := by have := scans_apart _ _ (fun z => by simp) e y x uA vB HU.out HX.out (by omega) (by omega) (by omega); omega
                  have hne : uA ≠ vB := by omega
                  have hb1 : uA < d.size := by omega
                  have hb2 : vB < d.size := by omega
                  have c1 := D.c uA (by omega)
                  have c2 := D.c vB (by omega)
                  have f1 := D.f uA (by omega)
                  have f2 := D.f vB (by omega)
                  have HD2 := Lib.hid ((D.swap uA vB (by omega) (by omega)).kept (w' := (((WB).setCell ⟨g, uA, none⟩ (.int .u32 (e)[vB]!)).setCell ⟨g, vB, none⟩ (.int .u32 (e)[uA]!)).drew) rfl (Nat.le_refl _))
                  have HO2 := Lib.hid ((O.trans (off_swap (WB) g uA vB (.int .u32 (e)[vB]!) (.int .u32 (e)[uA]!))).trans (off_drew _))
                  generalize (e)[uA]! = P1 at c1 c2 HD2 HO2
                  generalize (e)[vB]! = P2 at c1 c2 HD2 HO2
                  clear D O
                  go_wp2_with fail
                  go_region
                  clear c1 c2 f1 f2
                  have D := HD2.out
                  have O := HO2.out
                  clear HD2 HO2
                  generalize (((WB).setCell ⟨g, uA, none⟩ (.int .u32 P2)).setCell ⟨g, vB, none⟩ (.int .u32 P1)).drew = W8 at *
                  go_wp2_with fail
                  go_loopw [10, 11] (fun v1 v2 wr => ∃ (x y : Nat) (e : Array Int), v1 = .int .i64 x ∧ v2 = .int .i64 y ∧ a < x ∧ x ≤ y + 1 ∧ y < b ∧ DAt wr g e ∧ Off (· = g) w wr ∧ e.size = d.size ∧ Hid (partLoop ltU a x y e = R3)) (fun v1 v2 _ => (intOf v2).toNat + 1 - (intOf v1).toNat)
                  case atStart => exact ⟨uA + 1, vB - 1, swp e uA vB, by go_num, by go_num, by omega, by omega, by omega, D, O, by rw [swp_size]; exact hes, HR⟩
                  case round =>
                    clear D O HR
                    clear hx hy hxi hyi huA0 huA1 hvB0 hvB1 hq hgt hgz hne hb1 hb2 hle hes HU HX
                    obtain ⟨x, y, e, rfl, rfl, hax, hxy, hyb, D, O, hes, HR⟩ := hrel
                    go_wp2_with fail
                    go_loopw [10] (fun v wr => ∃ uC : Nat, v = .int .i64 uC ∧ x ≤ uC ∧ uC ≤ y + 1 ∧ DAt wr g e ∧ Off (· = g) w wr ∧ Hid (scanUp (fun z => ltU z e[a]!) e y uC = scanUp (fun z => ltU z e[a]!) e y x)) (fun v _ => y + 1 - (intOf v).toNat)
                    case atStart => exact ⟨x, by first | rfl | go_num, Nat.le_refl _, by omega, D, O, Lib.hid rfl⟩
                    case round =>
                      clear D O
                      obtain ⟨uC, rfl, huC0, huC1, D, O, HSC⟩ := hrel
                      have hg := gcell
                      have hgl := D.lt
                      by_cases hle : uC ≤ y
                      · have q0 : decide ((uC : Int) ≤ (y : Int)) = true := decide_eq_true (by omega)
                        have c1 := D.c uC (by omega)
                        have c2 := D.c a (by omega)
                        have HD := Lib.hid D
                        have HO := Lib.hid O
                        clear D O
                        cases hq : ltU e[uC]! e[a]!
                        · have CL := Lib.hid (fun w' => sLessB _ _ _ hq w')
                          have HX := Lib.hid (show scanUp (fun z => ltU z e[a]!) e y x = uC by rw [← HSC.out, scanUp.eq_def, if_neg (by simp [hq])])
                          clear hq HSC
                          go_wp2_with fail
                          refine wp_region_quiet_below (by kernel_rfl) (by kernel_rfl) ?_
                          repeat (go_big_quiet_step (first | (go_at_call 82; exact Calls.regrown_of (CL.out _))))
                          refine wpQuiet_nil ?_
                          intro _ hw'
                          obtain ⟨⟨dq, osq⟩, hw''⟩ := hw'
                          subst hw''
                          have hbr := below_regrown wr dq osq
                          have D := HD.out.below hbr
                          have O := HO.out.trans (Off.ofBelow hbr)
                          clear hbr HD HO CL hg hgl c1 c2 q0
                          dsimp only at D O ⊢
                          generalize grow (redrawn wr dq) osq = WC at *
                          have HU := HX
                          clear HX
                          go_wp2_with fail
                          go_loopw [11] (fun v wr => ∃ vD : Nat, v = .int .i64 vD ∧ vD ≤ y ∧ uC ≤ vD + 1 ∧ DAt wr g e ∧ Off (· = g) w wr ∧ Hid (scanDown (fun z => !ltU z e[a]!) e uC vD = scanDown (fun z => !ltU z e[a]!) e uC y)) (fun v _ => (intOf v).toNat)
                          case atStart => exact ⟨y, by first | rfl | go_num, Nat.le_refl _, by omega, D, O, Lib.hid rfl⟩
                          case round =>
                            clear D O
                            obtain ⟨vD, rfl, hvD0, hvD1, D, O, HSD⟩ := hrel
                            have hg := gcell
                            have hgl := D.lt
                            by_cases hle : uC ≤ vD
                            · have q0 : decide ((uC : Int) ≤ (vD : Int)) = true := decide_eq_true (by omega)
                              obtain ⟨vDp, hvDp⟩ : ∃ z, vD = z + 1 := ⟨vD - 1, by omega⟩
                              have c1 := D.c vD (by omega)
                              have c2 := D.c a (by omega)
                              have HD := Lib.hid D
                              have HO := Lib.hid O
                              clear D O
                              cases hq : ltU e[vD]! e[a]!
                              · have CL := Lib.hid (fun w' => sLessB _ _ _ hq w')
                                have HX := Lib.hid (show scanDown (fun z => !ltU z e[a]!) e uC vDp = scanDown (fun z => !ltU z e[a]!) e uC y by
                                  rw [← HSD.out, hvDp]
                                  conv => rhs; unfold scanDown
                                  rw [← hvDp, if_pos (by simp [hle, hq])])
                                have ez : (vD : Int) - 1 = (vDp : Int) := by omega
                                clear hq hvDp
                                go_wp2_with fail
                                refine wp_region_quiet_below (by kernel_rfl) (by kernel_rfl) ?_
                                repeat (go_big_quiet_step (first | (go_at_call 82; exact Calls.regrown_of (CL.out _))))
                                refine wpQuiet_nil ?_
                                intro _ hw'
                                obtain ⟨⟨dq, osq⟩, hw''⟩ := hw'
                                subst hw''
                                have hbr := below_regrown wr dq osq
                                have D1 := HD.out.below hbr
                                have O1 := HO.out.trans (Off.ofBelow hbr)
                                clear hbr
                                go_wp2_with fail
                                go_roundw
                                case rel => exact ⟨vDp, by go_num, by omega, by omega, D1, O1, HX⟩
                                case measure => simp [intOf]; omega
                              · have CL := Lib.hid (fun w' => sLessB _ _ _ hq w')
                                have HX := Lib.hid (show scanDown (fun z => !ltU z e[a]!) e uC y = vD by rw [← HSD.out, hvDp]; unfold scanDown; rw [← hvDp, if_neg (by simp [hq])])
                                clear hq HSD hvDp
                                go_wp2_with fail
                                refine wp_region_quiet_below (by kernel_rfl) (by kernel_rfl) ?_
                                repeat (go_big_quiet_step (first | (go_at_call 82; exact Calls.regrown_of (CL.out _))))
                                refine wpQuiet_nil ?_
                                intro _ hw'
                                obtain ⟨⟨dq, osq⟩, hw''⟩ := hw'
                                subst hw''
                                have hbr := below_regrown wr dq osq
                                have D := HD.out.below hbr
                                have O := HO.out.trans (Off.ofBelow hbr)
                                clear hbr HD HO CL hg hgl c1 c2 q0
                                dsimp only at D O ⊢
                                generalize grow (redrawn wr dq) osq = WD at *
                                have HN := Lib.hid (show partLoop ltU a x y e = if uC > vD then (vD, e) else partLoop ltU a (uC + 1) (vD - 1) (swp e uC vD) by rw [partLoop_eq]; simp only [HU.out, HX.out])
                                by_cases hgt : vD < uC
                                · have HN2 := Lib.hid (show (vD, false, swp e vD a) = R by rw [← HF.out, ← HR.out, HN.out, if_pos hgt])
                                  have hgz : (vD : Int) < (uC : Int) := by omega
                                  clear HR HN
                                  rcases (show vD = a ∨ a < vD by omega) with hqa | hqa
                                  · have hqv : vD = a := by omega
                                    have hb1 : vD < d.size := by omega
                                    clear hqa
                                    subst hqv
                                    have c1 := D.c vD (by omega)
                                    have c2 := D.c vD (by omega)
                                    have f1 := D.f vD (by omega)
                                    have f2 := D.f vD (by omega)
                                    have HD2 := Lib.hid ((D.swap vD vD (by omega) (by omega)).kept (w' := (((WD).setCell ⟨g, vD, none⟩ (.int .u32 (e)[vD]!)).setCell ⟨g, vD, none⟩ (.int .u32 (e)[vD]!)).drew) rfl (Nat.le_refl _))
                                    have HO2 := Lib.hid ((O.trans (off_swap (WD) g vD vD (.int .u32 (e)[vD]!) (.int .u32 (e)[vD]!))).trans (off_drew _))
                                    generalize (e)[vD]! = P1 at c1 c2 HD2 HO2
                                    clear D O
                                    go_wp2_with fail
                                    go_region
                                    all_goals
                                      clear c1 c2 f1 f2
                                      have D := HD2.out
                                      have O := HO2.out
                                      clear HD2 HO2
                                      generalize (((WD).setCell ⟨g, vD, none⟩ (.int .u32 P1)).setCell ⟨g, vD, none⟩ (.int .u32 P1)).drew = W9 at *
                                      have HD := Lib.hid D
                                      have HO := Lib.hid O
                                      clear D O
                                      go_wp2_with fail
                                      go_ret2
                                      exact ⟨by rw [← HN2.out]; rfl, by rw [← HN2.out]; exact HD.out, HO.out⟩
                                  · have hne : vD ≠ a := by omega
                                    have hb1 : vD < d.size := by omega
                                    have hb2 : a < d.size := by omega
                                    have c1 := D.c vD (by omega)
                                    have c2 := D.c a (by omega)
                                    have f1 := D.f vD (by omega)
                                    have f2 := D.f a (by omega)
                                    have HD2 := Lib.hid ((D.swap vD a (by omega) (by omega)).kept (w' := (((WD).setCell ⟨g, vD, none⟩ (.int .u32 (e)[a]!)).setCell ⟨g, a, none⟩ (.int .u32 (e)[vD]!)).drew) rfl (Nat.le_refl _))
                                    have HO2 := Lib.hid ((O.trans (off_swap (WD) g vD a (.int .u32 (e)[a]!) (.int .u32 (e)[vD]!))).trans (off_drew _))
                                    generalize (e)[vD]! = P1 at c1 c2 HD2 HO2
                                    generalize (e)[a]! = P2 at c1 c2 HD2 HO2
                                    clear D O
                                    go_wp2_with fail
                                    go_region
                                    all_goals
                                      clear c1 c2 f1 f2
                                      have D := HD2.out
                                      have O := HO2.out
                                      clear HD2 HO2
                                      generalize (((WD).setCell ⟨g, vD, none⟩ (.int .u32 P2)).setCell ⟨g, a, none⟩ (.int .u32 P1)).drew = W9 at *
                                      have HD := Lib.hid D
                                      have HO := Lib.hid O
                                      clear D O
                                      go_wp2_with fail
                                      go_ret2
                                      exact ⟨by rw [← HN2.out]; rfl, by rw [← HN2.out]; exact HD.out, HO.out⟩
                                · have HN2 := Lib.hid (show partLoop ltU a (uC + 1) (vD - 1) (swp e uC vD) = R3 by rw [← HR.out, HN.out, if_neg hgt])
                                  have hgz : ¬ (vD : Int) < (uC : Int) := by omega
                                  clear HR HN
                                  have hq : uC < vD := by have := scans_apart _ _ (fun z => by simp) e y x uC vD HU.out HX.out (by omega) (by omega) (by omega); omega
                                  have hne : uC ≠ vD := by omega
                                  have hb1 : uC < d.size := by omega
                                  have hb2 : vD < d.size := by omega
                                  have c1 := D.c uC (by omega)
                                  have c2 := D.c vD (by omega)
                                  have f1 := D.f uC (by omega)
                                  have f2 := D.f vD (by omega)
                                  have HD2 := Lib.hid ((D.swap uC vD (by omega) (by omega)).kept (w' := (((WD).setCell ⟨g, uC, none⟩ (.int .u32 (e)[vD]!)).setCell ⟨g, vD, none⟩ (.int .u32 (e)[uC]!)).drew) rfl (Nat.le_refl _))
                                  have HO2 := Lib.hid ((O.trans (off_swap (WD) g uC vD (.int .u32 (e)[vD]!) (.int .u32 (e)[uC]!))).trans (off_drew _))
                                  generalize (e)[uC]! = P1 at c1 c2 HD2 HO2
                                  generalize (e)[vD]! = P2 at c1 c2 HD2 HO2
                                  clear D O
                                  go_wp2_with fail
                                  go_region
                                  clear c1 c2 f1 f2
                                  have D := HD2.out
                                  have O := HO2.out
                                  clear HD2 HO2
                                  generalize (((WD).setCell ⟨g, uC, none⟩ (.int .u32 P2)).setCell ⟨g, vD, none⟩ (.int .u32 P1)).drew = W9 at *
                                  go_wp2_with fail
                                  go_roundw
                                  case rel => exact ⟨uC + 1, vD - 1, swp e uC vD, by go_num, by go_num, by omega, by omega, by omega, D, O, by rw [swp_size]; exact hes, HN2⟩
                                  case measure => simp [intOf]; omega
                            · have q0 : decide ((uC : Int) ≤ (vD : Int)) = false := decide_eq_false (by omega)
                              have HX := Lib.hid (show scanDown (fun z => !ltU z e[a]!) e uC y = vD by
                                rw [← HSD.out]
                                cases vD with
                                | zero => rfl
                                | succ z => unfold scanDown; rw [if_neg (by simp; omega)])
                              clear HSD
                              have HD := Lib.hid D
                              have HO := Lib.hid O
                              clear D O
                              go_wp2_with fail
                              refine wp_region_quiet_below (by kernel_rfl) (by kernel_rfl) ?_
                              repeat (go_big_quiet_step (fail))
                              refine wpQuiet_nil ?_
                              intro _ hw'
                              obtain ⟨⟨dq, osq⟩, hw''⟩ := hw'
                              subst hw''
                              have hbr := below_regrown wr dq osq
                              have D := HD.out.below hbr
                              have O := HO.out.trans (Off.ofBelow hbr)
                              clear hbr HD HO hg hgl q0
                              dsimp only at D O ⊢
                              generalize grow (redrawn wr dq) osq = WD at *
                              have HN := Lib.hid (show partLoop ltU a x y e = if uC > vD then (vD, e) else partLoop ltU a (uC + 1) (vD - 1) (swp e uC vD) by rw [partLoop_eq]; simp only [HU.out, HX.out])
                              by_cases hgt : vD < uC
                              · have HN2 := Lib.hid (show (vD, false, swp e vD a) = R by rw [← HF.out, ← HR.out, HN.out, if_pos hgt])
                                have hgz : (vD : Int) < (uC : Int) := by omega
                                clear HR HN
                                rcases (show vD = a ∨ a < vD by omega) with hqa | hqa
                                · have hqv : vD = a := by omega
                                  have hb1 : vD < d.size := by omega
                                  clear hqa
                                  subst hqv
                                  have c1 := D.c vD (by omega)
                                  have c2 := D.c vD (by omega)
                                  have f1 := D.f vD (by omega)
                                  have f2 := D.f vD (by omega)
                                  have HD2 := Lib.hid ((D.swap vD vD (by omega) (by omega)).kept (w' := (((WD).setCell ⟨g, vD, none⟩ (.int .u32 (e)[vD]!)).setCell ⟨g, vD, none⟩ (.int .u32 (e)[vD]!)).drew) rfl (Nat.le_refl _))
                                  have HO2 := Lib.hid ((O.trans (off_swap (WD) g vD vD (.int .u32 (e)[vD]!) (.int .u32 (e)[vD]!))).trans (off_drew _))
                                  generalize (e)[vD]! = P1 at c1 c2 HD2 HO2
                                  clear D O
                                  go_wp2_with fail
                                  go_region
                                  all_goals
                                    clear c1 c2 f1 f2
                                    have D := HD2.out
                                    have O := HO2.out
                                    clear HD2 HO2
                                    generalize (((WD).setCell ⟨g, vD, none⟩ (.int .u32 P1)).setCell ⟨g, vD, none⟩ (.int .u32 P1)).drew = W9 at *
                                    have HD := Lib.hid D
                                    have HO := Lib.hid O
                                    clear D O
                                    go_wp2_with fail
                                    go_ret2
                                    exact ⟨by rw [← HN2.out]; rfl, by rw [← HN2.out]; exact HD.out, HO.out⟩
                                · have hne : vD ≠ a := by omega
                                  have hb1 : vD < d.size := by omega
                                  have hb2 : a < d.size := by omega
                                  have c1 := D.c vD (by omega)
                                  have c2 := D.c a (by omega)
                                  have f1 := D.f vD (by omega)
                                  have f2 := D.f a (by omega)
                                  have HD2 := Lib.hid ((D.swap vD a (by omega) (by omega)).kept (w' := (((WD).setCell ⟨g, vD, none⟩ (.int .u32 (e)[a]!)).setCell ⟨g, a, none⟩ (.int .u32 (e)[vD]!)).drew) rfl (Nat.le_refl _))
                                  have HO2 := Lib.hid ((O.trans (off_swap (WD) g vD a (.int .u32 (e)[a]!) (.int .u32 (e)[vD]!))).trans (off_drew _))
                                  generalize (e)[vD]! = P1 at c1 c2 HD2 HO2
                                  generalize (e)[a]! = P2 at c1 c2 HD2 HO2
                                  clear D O
                                  go_wp2_with fail
                                  go_region
                                  all_goals
                                    clear c1 c2 f1 f2
                                    have D := HD2.out
                                    have O := HO2.out
                                    clear HD2 HO2
                                    generalize (((WD).setCell ⟨g, vD, none⟩ (.int .u32 P2)).setCell ⟨g, a, none⟩ (.int .u32 P1)).drew = W9 at *
                                    have HD := Lib.hid D
                                    have HO := Lib.hid O
                                    clear D O
                                    go_wp2_with fail
                                    go_ret2
                                    exact ⟨by rw [← HN2.out]; rfl, by rw [← HN2.out]; exact HD.out, HO.out⟩
                              · exact absurd hle (by omega)
                        · have CL := Lib.hid (fun w' => sLessB _ _ _ hq w')
                          have HX := Lib.hid (show scanUp (fun z => ltU z e[a]!) e y (uC + 1) = scanUp (fun z => ltU z e[a]!) e y x by
                            rw [← HSC.out]
                            conv => rhs; rw [scanUp.eq_def]
                            rw [if_pos (by simp [hle, hq])])
                          clear hq
                          go_wp2_with fail
                          refine wp_region_quiet_below (by kernel_rfl) (by kernel_rfl) ?_
                          repeat (go_big_quiet_step (first | (go_at_call 82; exact Calls.regrown_of (CL.out _))))
                          refine wpQuiet_nil ?_
                          intro _ hw'
                          obtain ⟨⟨dq, osq⟩, hw''⟩ := hw'
                          subst hw''
                          have hbr := below_regrown wr dq osq
                          have D1 := HD.out.below hbr
                          have O1 := HO.out.trans (Off.ofBelow hbr)
                          clear hbr
                          go_wp2_with fail
                          go_roundw
                          case rel => exact ⟨uC + 1, by go_num, by omega, by omega, D1, O1, HX⟩
                          case measure => simp [intOf]; omega
                      · have q0 : decide ((uC : Int) ≤ (y : Int)) = false := decide_eq_false (by omega)
                        have HX := Lib.hid (show scanUp (fun z => ltU z e[a]!) e y x = uC by rw [← HSC.out, scanUp.eq_def, if_neg (by simp [hle])])
                        clear HSC
                        have HD := Lib.hid D
                        have HO := Lib.hid O
                        clear D O
                        go_wp2_with fail
                        refine wp_region_quiet_below (by kernel_rfl) (by kernel_rfl) ?_
                        repeat (go_big_quiet_step (fail))
                        refine wpQuiet_nil ?_
                        intro _ hw'
                        obtain ⟨⟨dq, osq⟩, hw''⟩ := hw'
                        subst hw''
                        have hbr := below_regrown wr dq osq
                        have D := HD.out.below hbr
                        have O := HO.out.trans (Off.ofBelow hbr)
                        clear hbr HD HO hg hgl q0
                        dsimp only at D O ⊢
                        generalize grow (redrawn wr dq) osq = WC at *
                        have HU := HX
                        clear HX
                        go_wp2_with fail
                        go_loopw [11] (fun v wr => ∃ vD : Nat, v = .int .i64 vD ∧ vD ≤ y ∧ uC ≤ vD + 1 ∧ DAt wr g e ∧ Off (· = g) w wr ∧ Hid (scanDown (fun z => !ltU z e[a]!) e uC vD = scanDown (fun z => !ltU z e[a]!) e uC y)) (fun v _ => (intOf v).toNat)
                        case atStart => exact ⟨y, by first | rfl | go_num, Nat.le_refl _, by omega, D, O, Lib.hid rfl⟩
                        case round =>
                          clear D O
                          obtain ⟨vD, rfl, hvD0, hvD1, D, O, HSD⟩ := hrel
                          have hg := gcell
                          have hgl := D.lt
                          by_cases hle : uC ≤ vD
                          · exfalso; omega
                          · have q0 : decide ((uC : Int) ≤ (vD : Int)) = false := decide_eq_false (by omega)
                            have HX := Lib.hid (show scanDown (fun z => !ltU z e[a]!) e uC y = vD by
                              rw [← HSD.out]
                              cases vD with
                              | zero => rfl
                              | succ z => unfold scanDown; rw [if_neg (by simp; omega)])
                            clear HSD
                            have HD := Lib.hid D
                            have HO := Lib.hid O
                            clear D O
                            go_wp2_with fail
                            refine wp_region_quiet_below (by kernel_rfl) (by kernel_rfl) ?_
                            repeat (go_big_quiet_step (fail))
                            refine wpQuiet_nil ?_
                            intro _ hw'
                            obtain ⟨⟨dq, osq⟩, hw''⟩ := hw'
                            subst hw''
                            have hbr := below_regrown wr dq osq
                            have D := HD.out.below hbr
                            have O := HO.out.trans (Off.ofBelow hbr)
                            clear hbr HD HO hg hgl q0
                            dsimp only at D O ⊢
                            generalize grow (redrawn wr dq) osq = WD at *
                            have HN := Lib.hid (show partLoop ltU a x y e = if uC > vD then (vD, e) else partLoop ltU a (uC + 1) (vD - 1) (swp e uC vD) by rw [partLoop_eq]; simp only [HU.out, HX.out])
                            by_cases hgt : vD < uC
                            · have HN2 := Lib.hid (show (vD, false, swp e vD a) = R by rw [← HF.out, ← HR.out, HN.out, if_pos hgt])
                              have hgz : (vD : Int) < (uC : Int) := by omega
                              clear HR HN
                              rcases (show vD = a ∨ a < vD by omega) with hqa | hqa
                              · have hqv : vD = a := by omega
                                have hb1 : vD < d.size := by omega
                                clear hqa
                                subst hqv
                                have c1 := D.c vD (by omega)
                                have c2 := D.c vD (by omega)
                                have f1 := D.f vD (by omega)
                                have f2 := D.f vD (by omega)
                                have HD2 := Lib.hid ((D.swap vD vD (by omega) (by omega)).kept (w' := (((WD).setCell ⟨g, vD, none⟩ (.int .u32 (e)[vD]!)).setCell ⟨g, vD, none⟩ (.int .u32 (e)[vD]!)).drew) rfl (Nat.le_refl _))
                                have HO2 := Lib.hid ((O.trans (off_swap (WD) g vD vD (.int .u32 (e)[vD]!) (.int .u32 (e)[vD]!))).trans (off_drew _))
                                generalize (e)[vD]! = P1 at c1 c2 HD2 HO2
                                clear D O
                                go_wp2_with fail
                                go_region
                                all_goals
                                  clear c1 c2 f1 f2
                                  have D := HD2.out
                                  have O := HO2.out
                                  clear HD2 HO2
                                  generalize (((WD).setCell ⟨g, vD, none⟩ (.int .u32 P1)).setCell ⟨g, vD, none⟩ (.int .u32 P1)).drew = W9 at *
                                  have HD := Lib.hid D
                                  have HO := Lib.hid O
                                  clear D O
                                  go_wp2_with fail
                                  go_ret2
                                  exact ⟨by rw [← HN2.out]; rfl, by rw [← HN2.out]; exact HD.out, HO.out⟩
                              · have hne : vD ≠ a := by omega
                                have hb1 : vD < d.size := by omega
                                have hb2 : a < d.size := by omega
                                have c1 := D.c vD (by omega)
                                have c2 := D.c a (by omega)
                                have f1 := D.f vD (by omega)
                                have f2 := D.f a (by omega)
                                have HD2 := Lib.hid ((D.swap vD a (by omega) (by omega)).kept (w' := (((WD).setCell ⟨g, vD, none⟩ (.int .u32 (e)[a]!)).setCell ⟨g, a, none⟩ (.int .u32 (e)[vD]!)).drew) rfl (Nat.le_refl _))
                                have HO2 := Lib.hid ((O.trans (off_swap (WD) g vD a (.int .u32 (e)[a]!) (.int .u32 (e)[vD]!))).trans (off_drew _))
                                generalize (e)[vD]! = P1 at c1 c2 HD2 HO2
                                generalize (e)[a]! = P2 at c1 c2 HD2 HO2
                                clear D O
                                go_wp2_with fail
                                go_region
                                all_goals
                                  clear c1 c2 f1 f2
                                  have D := HD2.out
                                  have O := HO2.out
                                  clear HD2 HO2
                                  generalize (((WD).setCell ⟨g, vD, none⟩ (.int .u32 P2)).setCell ⟨g, a, none⟩ (.int .u32 P1)).drew = W9 at *
                                  have HD := Lib.hid D
                                  have HO := Lib.hid O
                                  clear D O
                                  go_wp2_with fail
                                  go_ret2
                                  exact ⟨by rw [← HN2.out]; rfl, by rw [← HN2.out]; exact HD.out, HO.out⟩
                            · exact absurd hle (by omega)
            · have q0 : decide ((uA : Int) ≤ (vB : Int)) = false := decide_eq_false (by omega)
              have HX := Lib.hid (show scanDown (fun z => !ltU z e[a]!) e uA y = vB by
                rw [← HSB.out]
                cases vB with
                | zero => rfl
                | succ z => unfold scanDown; rw [if_neg (by simp; omega)])
              clear HSB
              have HD := Lib.hid D
              have HO := Lib.hid O
              clear D O
              go_wp2_with fail
              refine wp_region_quiet_below (by kernel_rfl) (by kernel_rfl) ?_
              repeat (go_big_quiet_step (fail))
              refine wpQuiet_nil ?_
              intro _ hw'
              obtain ⟨⟨dq, osq⟩, hw''⟩ := hw'
              subst hw''
              have hbr := below_regrown wr dq osq
              have D := HD.out.below hbr
              have O := HO.out.trans (Off.ofBelow hbr)
              clear hbr HD HO hg hgl q0
              dsimp only at D O ⊢
              generalize grow (redrawn wr dq) osq = WB at *
              have HN := Lib.hid (HP.out uA vB HU.out HX.out)
              by_cases hgt : vB < uA
              · have HN2 := Lib.hid (show (vB, true, swp e vB a) = R by rw [HN.out, if_pos hgt])
                have hgz : (vB : Int) < (uA : Int) := by omega
                clear HN HP
                rcases (show vB = a ∨ a < vB by omega) with hqa | hqa
                · have hqv : vB = a := by omega
                  have hb1 : vB < d.size := by omega
                  clear hqa
                  subst hqv
                  have c1 := D.c vB (by omega)
                  have c2 := D.c vB (by omega)
                  have f1 := D.f vB (by omega)
                  have f2 := D.f vB (by omega)
                  have HD2 := Lib.hid ((D.swap vB vB (by omega) (by omega)).kept (w' := (((WB).setCell ⟨g, vB, none⟩ (.int .u32 (e)[vB]!)).setCell ⟨g, vB, none⟩ (.int .u32 (e)[vB]!)).drew) rfl (Nat.le_refl _))
                  have HO2 := Lib.hid ((O.trans (off_swap (WB) g vB vB (.int .u32 (e)[vB]!) (.int .u32 (e)[vB]!))).trans (off_drew _))
                  generalize (e)[vB]! = P1 at c1 c2 HD2 HO2
                  clear D O
                  go_wp2_with fail
                  go_region
                  all_goals
                    clear c1 c2 f1 f2
                    have D := HD2.out
                    have O := HO2.out
                    clear HD2 HO2
                    generalize (((WB).setCell ⟨g, vB, none⟩ (.int .u32 P1)).setCell ⟨g, vB, none⟩ (.int .u32 P1)).drew = W9 at *
                    have HD := Lib.hid D
                    have HO := Lib.hid O
                    clear D O
                    go_wp2_with fail
                    go_ret2
                    exact ⟨by rw [← HN2.out]; rfl, by rw [← HN2.out]; exact HD.out, HO.out⟩
                · have hne : vB ≠ a := by omega
                  have hb1 : vB < d.size := by omega
                  have hb2 : a < d.size := by omega
                  have c1 := D.c vB (by omega)
                  have c2 := D.c a (by omega)
                  have f1 := D.f vB (by omega)
                  have f2 := D.f a (by omega)
                  have HD2 := Lib.hid ((D.swap vB a (by omega) (by omega)).kept (w' := (((WB).setCell ⟨g, vB, none⟩ (.int .u32 (e)[a]!)).setCell ⟨g, a, none⟩ (.int .u32 (e)[vB]!)).drew) rfl (Nat.le_refl _))
                  have HO2 := Lib.hid ((O.trans (off_swap (WB) g vB a (.int .u32 (e)[a]!) (.int .u32 (e)[vB]!))).trans (off_drew _))
                  generalize (e)[vB]! = P1 at c1 c2 HD2 HO2
                  generalize (e)[a]! = P2 at c1 c2 HD2 HO2
                  clear D O
                  go_wp2_with fail
                  go_region
                  all_goals
                    clear c1 c2 f1 f2
                    have D := HD2.out
                    have O := HO2.out
                    clear HD2 HO2
                    generalize (((WB).setCell ⟨g, vB, none⟩ (.int .u32 P2)).setCell ⟨g, a, none⟩ (.int .u32 P1)).drew = W9 at *
                    have HD := Lib.hid D
                    have HO := Lib.hid O
                    clear D O
                    go_wp2_with fail
                    go_ret2
                    exact ⟨by rw [← HN2.out]; rfl, by rw [← HN2.out]; exact HD.out, HO.out⟩
              · exact absurd hle (by omega)
        · have CL := Lib.hid (fun w' => sLessB _ _ _ hq w')
          have HX := Lib.hid (show scanUp (fun z => ltU z e[a]!) e y (uA + 1) = scanUp (fun z => ltU z e[a]!) e y x by
            rw [← HSA.out]
            conv => rhs; rw [scanUp.eq_def]
            rw [if_pos (by simp [hle, hq])])
          clear hq
          go_wp2_with fail
          refine wp_region_quiet_below (by kernel_rfl) (by kernel_rfl) ?_
          repeat (go_big_quiet_step (first | (go_at_call 82; exact Calls.regrown_of (CL.out _))))
          refine wpQuiet_nil ?_
          intro _ hw'
          obtain ⟨⟨dq, osq⟩, hw''⟩ := hw'
          subst hw''
          have hbr := below_regrown wr dq osq
          have D1 := HD.out.below hbr
          have O1 := HO.out.trans (Off.ofBelow hbr)
          clear hbr
          go_wp2_with fail
          go_roundw
          case rel => exact ⟨uA + 1, by go_num, by omega, by omega, D1, O1, HX⟩
          case measure => simp [intOf]; omega
      · have q0 : decide ((uA : Int) ≤ (y : Int)) = false := decide_eq_false (by omega)
        have HX := Lib.hid (show scanUp (fun z => ltU z e[a]!) e y x = uA by rw [← HSA.out, scanUp.eq_def, if_neg (by simp [hle])])
        clear HSA
        have HD := Lib.hid D
        have HO := Lib.hid O
        clear D O
        go_wp2_with fail
        refine wp_region_quiet_below (by kernel_rfl) (by kernel_rfl) ?_
        repeat (go_big_quiet_step (fail))
        refine wpQuiet_nil ?_
        intro _ hw'
        obtain ⟨⟨dq, osq⟩, hw''⟩ := hw'
        subst hw''
        have hbr := below_regrown wr dq osq
        have D := HD.out.below hbr
        have O := HO.out.trans (Off.ofBelow hbr)
        clear hbr HD HO hg hgl q0
        dsimp only at D O ⊢
        generalize grow (redrawn wr dq) osq = WA at *
        have HU := HX
        clear HX
        go_wp2_with fail
        go_loopw [11] (fun v wr => ∃ vB : Nat, v = .int .i64 vB ∧ vB ≤ y ∧ uA ≤ vB + 1 ∧ DAt wr g e ∧ Off (· = g) w wr ∧ Hid (scanDown (fun z => !ltU z e[a]!) e uA vB = scanDown (fun z => !ltU z e[a]!) e uA y)) (fun v _ => (intOf v).toNat)
        case atStart => exact ⟨y, by first | rfl | go_num, Nat.le_refl _, by omega, D, O, Lib.hid rfl⟩
        case round =>
          clear D O
          obtain ⟨vB, rfl, hvB0, hvB1, D, O, HSB⟩ := hrel
          have hg := gcell
          have hgl := D.lt
          by_cases hle : uA ≤ vB
          · exfalso; omega
          · have q0 : decide ((uA : Int) ≤ (vB : Int)) = false := decide_eq_false (by omega)
            have HX := Lib.hid (show scanDown (fun z => !ltU z e[a]!) e uA y = vB by
              rw [← HSB.out]
              cases vB with
              | zero => rfl
              | succ z => unfold scanDown; rw [if_neg (by simp; omega)])
            clear HSB
            have HD := Lib.hid D
            have HO := Lib.hid O
            clear D O
            go_wp2_with fail
            refine wp_region_quiet_below (by kernel_rfl) (by kernel_rfl) ?_
            repeat (go_big_quiet_step (fail))
            refine wpQuiet_nil ?_
            intro _ hw'
            obtain ⟨⟨dq, osq⟩, hw''⟩ := hw'
            subst hw''
            have hbr := below_regrown wr dq osq
            have D := HD.out.below hbr
            have O := HO.out.trans (Off.ofBelow hbr)
            clear hbr HD HO hg hgl q0
            dsimp only at D O ⊢
            generalize grow (redrawn wr dq) osq = WB at *
            have HN := Lib.hid (HP.out uA vB HU.out HX.out)
            by_cases hgt : vB < uA
            · have HN2 := Lib.hid (show (vB, true, swp e vB a) = R by rw [HN.out, if_pos hgt])
              have hgz : (vB : Int) < (uA : Int) := by omega
              clear HN HP
              rcases (show vB = a ∨ a < vB by omega) with hqa | hqa
              · have hqv : vB = a := by omega
                have hb1 : vB < d.size := by omega
                clear hqa
                subst hqv
                have c1 := D.c vB (by omega)
                have c2 := D.c vB (by omega)
                have f1 := D.f vB (by omega)
                have f2 := D.f vB (by omega)
                have HD2 := Lib.hid ((D.swap vB vB (by omega) (by omega)).kept (w' := (((WB).setCell ⟨g, vB, none⟩ (.int .u32 (e)[vB]!)).setCell ⟨g, vB, none⟩ (.int .u32 (e)[vB]!)).drew) rfl (Nat.le_refl _))
                have HO2 := Lib.hid ((O.trans (off_swap (WB) g vB vB (.int .u32 (e)[vB]!) (.int .u32 (e)[vB]!))).trans (off_drew _))
                generalize (e)[vB]! = P1 at c1 c2 HD2 HO2
                clear D O
                go_wp2_with fail
                go_region
                all_goals
                  clear c1 c2 f1 f2
                  have D := HD2.out
                  have O := HO2.out
                  clear HD2 HO2
                  generalize (((WB).setCell ⟨g, vB, none⟩ (.int .u32 P1)).setCell ⟨g, vB, none⟩ (.int .u32 P1)).drew = W9 at *
                  have HD := Lib.hid D
                  have HO := Lib.hid O
                  clear D O
                  go_wp2_with fail
                  go_ret2
                  exact ⟨by rw [← HN2.out]; rfl, by rw [← HN2.out]; exact HD.out, HO.out⟩
              · have hne : vB ≠ a := by omega
                have hb1 : vB < d.size := by omega
                have hb2 : a < d.size := by omega
                have c1 := D.c vB (by omega)
                have c2 := D.c a (by omega)
                have f1 := D.f vB (by omega)
                have f2 := D.f a (by omega)
                have HD2 := Lib.hid ((D.swap vB a (by omega) (by omega)).kept (w' := (((WB).setCell ⟨g, vB, none⟩ (.int .u32 (e)[a]!)).setCell ⟨g, a, none⟩ (.int .u32 (e)[vB]!)).drew) rfl (Nat.le_refl _))
                have HO2 := Lib.hid ((O.trans (off_swap (WB) g vB a (.int .u32 (e)[a]!) (.int .u32 (e)[vB]!))).trans (off_drew _))
                generalize (e)[vB]! = P1 at c1 c2 HD2 HO2
                generalize (e)[a]! = P2 at c1 c2 HD2 HO2
                clear D O
                go_wp2_with fail
                go_region
                all_goals
                  clear c1 c2 f1 f2
                  have D := HD2.out
                  have O := HO2.out
                  clear HD2 HO2
                  generalize (((WB).setCell ⟨g, vB, none⟩ (.int .u32 P2)).setCell ⟨g, a, none⟩ (.int .u32 P1)).drew = W9 at *
                  have HD := Lib.hid D
                  have HO := Lib.hid O
                  clear D O
                  go_wp2_with fail
                  go_ret2
                  exact ⟨by rw [← HN2.out]; rfl, by rw [← HN2.out]; exact HD.out, HO.out⟩
            · exact absurd hle (by omega)
end Go.Proofs.Ytafegmmcgghgaaa.B
