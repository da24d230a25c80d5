/- slices.Sort at uint32: partitionEqual. -/
import Derived.Test.YtafegmmcgghgaaaSrtB
namespace Go.Proofs.Ytafegmmcgghgaaa.B
set_option linter.unusedVariables false
set_option linter.unusedSimpArgs false
open Go.ChangeShapes Go.WideShapes Go.RowKit Go.Sort
theorem scans_apart (p q : Int → Bool) (hq : ∀ x, q x = !p x) (e : Array Int) (j i u v : Nat) (hu : scanUp p e j i = u) (hv : scanDown q e u j = v) (hle : u ≤ v) (h0 : 0 < v) (hj : v ≤ j) : u ≠ v := by
  intro h
  subst h
  have f1 := (scanUp_spec p e j _ i rfl).2.2.2 (by omega)
  have f2 := (scanDown_spec q e (scanUp p e j i) j).2.2.2 (by rw [hu, hv]; exact Nat.le_refl _) (by rw [hu, hv]; exact h0)
  rw [hu] at f1 f2
  rw [hv, hq, f1] at f2
  cases f2
set_option maxHeartbeats 12800000 in
theorem sPartEq (g n cap a b p : Nat) (d : Array Int) (w : World) (h : DAt w g d) (hab : a < b) (hb : b ≤ d.size) (hp : a ≤ p) (hpb : p < b) (hn : d.size = n) (hc : n ≤ cap) (hm : cap ≤ 9223372036854775807) (hm2 : n < 1152921504606846976) :
    Calls Try.prog 83 #[.slice (some ⟨g, 0, none⟩) n cap, .int .i64 a, .int .i64 b, .int .i64 p] w
      fun e w' => e = .returned (.int .i64 (partitionEqual ltU d a b p).1) ∧ DAt w' g (partitionEqual ltU d a b p).2 ∧ Off (· = g) w w' := by
  subst hn
  obtain ⟨R, hR⟩ : ∃ R, partitionEqual ltU d a b p = R := ⟨_, rfl⟩
  rw [hR]
  have HR := Lib.hid (show partEqLoop ltU a (a + 1) (b - 1) (swp d a p) = R by rw [← hR]; rfl)
  clear hR
  have O : Off (· = g) w w := Off.refl _ _
  have D := h
  clear h
  rcases (show a = p ∨ a < p by omega) with hq | hq
  · subst hq
    go_enter Try.func83, Try.ntmps83
    have c1 := D.c a (by omega)
    have c2 := D.c a (by omega)
    have f1 := D.f a (by omega)
    have f2 := D.f a (by omega)
    have HD2 := Lib.hid ((D.swap a a (by omega) (by omega)).kept (w' := (((w).setCell ⟨g, a, none⟩ (.int .u32 (d)[a]!)).setCell ⟨g, a, none⟩ (.int .u32 (d)[a]!)).drew) rfl (Nat.le_refl _))
    have HO2 := Lib.hid ((O.trans (off_swap (w) g a a (.int .u32 (d)[a]!) (.int .u32 (d)[a]!))).trans (off_drew _))
    generalize (d)[a]! = P1 at c1 c2 HD2 HO2
    clear D O
    go_wp2_with fail
    go_region
    clear c1 c2 f1 f2
    have D := HD2.out
    have O := HO2.out
    clear HD2 HO2
    generalize (((w).setCell ⟨g, a, none⟩ (.int .u32 P1)).setCell ⟨g, a, none⟩ (.int .u32 P1)).drew = W1 at *
    have hs0 : (swp d a a).size = d.size := swp_size d a a
    generalize swp d a a = d1 at *
    go_wp2_with fail
    go_loopw [9, 10] (fun v1 v2 wr => ∃ (x y : Nat) (e : Array Int), v1 = .int .i64 x ∧ v2 = .int .i64 y ∧ a < x ∧ x ≤ y + 1 ∧ y < b ∧ DAt wr g e ∧ Off (· = g) w wr ∧ e.size = d.size ∧ Hid (partEqLoop ltU a x y e = R)) (fun v1 v2 _ => (intOf v2).toNat + 1 - (intOf v1).toNat)
    case atStart => exact ⟨a + 1, b - 1, d1, by go_num, by go_num, by omega, by omega, by omega, D, O, hs0, HR⟩
    case round =>
      clear D O HR
      obtain ⟨x, y, e, rfl, rfl, hax, hxy, hyb, D, O, hes, HR⟩ := hrel
      go_wp2_with fail
      go_loopw [9] (fun v wr => ∃ uA : Nat, v = .int .i64 uA ∧ x ≤ uA ∧ uA ≤ y + 1 ∧ DAt wr g e ∧ Off (· = g) w wr ∧ Hid (scanUp (fun z => !ltU e[a]! z) e y uA = scanUp (fun z => !ltU e[a]! z) e y x)) (fun v _ => y + 1 - (intOf v).toNat)
      case atStart => exact ⟨x, by first | rfl | go_num, Nat.le_refl _, by omega, D, O, Lib.hid rfl⟩
      case round =>
        clear D O
        obtain ⟨uA, rfl, huA0, huA1, D, O, HSA⟩ := hrel
        have hg := gcell
        have hgl := D.lt
        by_cases hle : uA ≤ y
        · have q0 : decide ((uA : Int) ≤ (y : Int)) = true := decide_eq_true (by omega)
          have c1 := D.c uA (by omega)
          have c2 := D.c a (by omega)
          have HD := Lib.hid D
          have HO := Lib.hid O
          clear D O
          cases hq : ltU e[a]! e[uA]!
          · have CL := Lib.hid (fun w' => sLessB _ _ _ hq w')
            have HX := Lib.hid (show scanUp (fun z => !ltU e[a]! z) e y (uA + 1) = scanUp (fun z => !ltU e[a]! z) e y x by
              rw [← HSA.out]
              conv => rhs; rw [scanUp.eq_def]
              rw [if_pos (by simp [hle, hq])])
            clear hq
            go_wp2_with fail
            refine wp_region_quiet_below (by kernel_rfl) (by kernel_rfl) ?_
            repeat (go_big_quiet_step (first | (go_at_call 82; exact Calls.regrown_of (CL.out _))))
            refine wpQuiet_nil ?_
            intro _ hw'
            obtain ⟨⟨dq, osq⟩, hw''⟩ := hw'
            subst hw''
            have hbr := below_regrown wr dq osq
            have D1 := HD.out.below hbr
            have O1 := HO.out.trans (Off.ofBelow hbr)
            clear hbr
            go_wp2_with fail
            go_roundw
            case rel => exact ⟨uA + 1, by go_num, by omega, by omega, D1, O1, HX⟩
            case measure => simp [intOf]; omega
          · have CL := Lib.hid (fun w' => sLessB _ _ _ hq w')
            have HX := Lib.hid (show scanUp (fun z => !ltU e[a]! z) e y x = uA by rw [← HSA.out, scanUp.eq_def, if_neg (by simp [hq])])
            clear hq HSA
            go_wp2_with fail
            refine wp_region_quiet_below (by kernel_rfl) (by kernel_rfl) ?_
            repeat (go_big_quiet_step (first | (go_at_call 82; exact Calls.regrown_of (CL.out _))))
            refine wpQuiet_nil ?_
            intro _ hw'
            obtain ⟨⟨dq, osq⟩, hw''⟩ := hw'
            subst hw''
            have hbr := below_regrown wr dq osq
            have D := HD.out.below hbr
            have O := HO.out.trans (Off.ofBelow hbr)
            clear hbr HD HO CL hg hgl c1 c2 q0
            dsimp only at D O ⊢
            generalize grow (redrawn wr dq) osq = WA at *
            have HU := HX
            clear HX
            go_wp2_with fail
            go_loopw [10] (fun v wr => ∃ vB : Nat, v = .int .i64 vB ∧ vB ≤ y ∧ uA ≤ vB + 1 ∧ DAt wr g e ∧ Off (· = g) w wr ∧ Hid (scanDown (fun z => ltU e[a]! z) e uA vB = scanDown (fun z => ltU e[a]! z) e uA y)) (fun v _ => (intOf v).toNat)
            case atStart => exact ⟨y, by first | rfl | go_num, Nat.le_refl _, by omega, D, O, Lib.hid rfl⟩
            case round =>
              clear D O
              obtain ⟨vB, rfl, hvB0, hvB1, D, O, HSB⟩ := hrel
              have hg := gcell
              have hgl := D.lt
              by_cases hle : uA ≤ vB
              · have q0 : decide ((uA : Int) ≤ (vB : Int)) = true := decide_eq_true (by omega)
                obtain ⟨vBp, hvBp⟩ : ∃ z, vB = z + 1 := ⟨vB - 1, by omega⟩
                have c1 := D.c vB (by omega)
                have c2 := D.c a (by omega)
                have HD := Lib.hid D
                have HO := Lib.hid O
                clear D O
                cases hq : ltU e[a]! e[vB]!
                · have CL := Lib.hid (fun w' => sLessB _ _ _ hq w')
                  have HX := Lib.hid (show scanDown (fun z => ltU e[a]! z) e uA y = vB by rw [← HSB.out, hvBp]; unfold scanDown; rw [← hvBp, if_neg (by simp [hq])])
                  clear hq HSB hvBp
                  go_wp2_with fail
                  refine wp_region_quiet_below (by kernel_rfl) (by kernel_rfl) ?_
                  repeat (go_big_quiet_step (first | (go_at_call 82; exact Calls.regrown_of (CL.out _))))
                  refine wpQuiet_nil ?_
                  intro _ hw'
                  obtain ⟨⟨dq, osq⟩, hw''⟩ := hw'
                  subst hw''
                  have hbr := below_regrown wr dq osq
                  have D := HD.out.below hbr
                  have O := HO.out.trans (Off.ofBelow hbr)
                  clear hbr HD HO CL hg hgl c1 c2 q0
                  dsimp only at D O ⊢
                  generalize grow (redrawn wr dq) osq = WB at *
                  have HN := Lib.hid (show partEqLoop ltU a x y e = if uA > vB then (uA, e) else partEqLoop ltU a (uA + 1) (vB - 1) (swp e uA vB) by rw [partEqLoop_eq]; simp only [HU.out, HX.out])
                  by_cases hgt : vB < uA
                  · have HN2 := Lib.hid (show (uA, e) = R by rw [← HR.out, HN.out, if_pos hgt])
                    have hgz : (vB : Int) < (uA : Int) := by omega
                    have HD := Lib.hid D
                    have HO := Lib.hid O
                    clear HR HN D O
                    go_wp2_with fail
                    go_ret
                    exact ⟨by rw [← HN2.out]; rfl, by rw [← HN2.out]; exact HD.out, HO.out⟩
                  · have HN2 := Lib.hid (show partEqLoop ltU a (uA + 1) (vB - 1) (swp e uA vB) = R by rw [← HR.out, HN.out, if_neg hgt])
                    have hgz : ¬ (vB : Int) < (uA : Int) := by omega
                    clear HR HN
                    have hq : uA < vB := by have := scans_apart _ _ (fun z => by simp) e y x uA vB HU.out HX.out (by omega) (by omega) (by omega); omega
                    have hne : uA ≠ vB := by omega
                    have hb1 : uA < d.size := by omega
                    have hb2 : vB < d.size := by omega
                    have c1 := D.c uA (by omega)
                    have c2 := D.c vB (by omega)
                    have f1 := D.f uA (by omega)
                    have f2 := D.f vB (by omega)
                    have HD2 := Lib.hid ((D.swap uA vB (by omega) (by omega)).kept (w' := (((WB).setCell ⟨g, uA, none⟩ (.int .u32 (e)[vB]!)).setCell ⟨g, vB, none⟩ (.int .u32 (e)[uA]!)).drew) rfl (Nat.le_refl _))
                    have HO2 := Lib.hid ((O.trans (off_swap (WB) g uA vB (.int .u32 (e)[vB]!) (.int .u32 (e)[uA]!))).trans (off_drew _))
                    generalize (e)[uA]! = P1 at c1 c2 HD2 HO2
                    generalize (e)[vB]! = P2 at c1 c2 HD2 HO2
                    clear D O
                    go_wp2_with fail
                    go_region
                    clear c1 c2 f1 f2
                    have D := HD2.out
                    have O := HO2.out
                    clear HD2 HO2
                    generalize (((WB).setCell ⟨g, uA, none⟩ (.int .u32 P2)).setCell ⟨g, vB, none⟩ (.int .u32 P1)).drew = W9 at *
                    go_wp2_with fail
                    go_roundw
                    case rel => exact ⟨uA + 1, vB - 1, swp e uA vB, by go_num, by go_num, by omega, by omega, by omega, D, O, by rw [swp_size]; exact hes, HN2⟩
                    case measure => simp [intOf]; omega
                · have CL := Lib.hid (fun w' => sLessB _ _ _ hq w')
                  have HX := Lib.hid (show scanDown (fun z => ltU e[a]! z) e uA vBp = scanDown (fun z => ltU e[a]! z) e uA y by
                    rw [← HSB.out, hvBp]
                    conv => rhs; unfold scanDown
                    rw [← hvBp, if_pos (by simp [hle, hq])])
                  have ez : (vB : Int) - 1 = (vBp : Int) := by omega
                  clear hq hvBp
                  go_wp2_with fail
                  refine wp_region_quiet_below (by kernel_rfl) (by kernel_rfl) ?_
                  repeat (go_big_quiet_step (first | (go_at_call 82; exact Calls.regrown_of (CL.out _))))
                  refine wpQuiet_nil ?_
                  intro _ hw'
                  obtain ⟨⟨dq, osq⟩, hw''⟩ := hw'
                  subst hw''
                  have hbr := below_regrown wr dq osq
                  have D1 := HD.out.below hbr
                  have O1 := HO.out.trans (Off.ofBelow hbr)
                  clear hbr
                  go_wp2_with fail
                  go_roundw
                  case rel => exact ⟨vBp, by go_num, by omega, by omega, D1, O1, HX⟩
                  case measure => simp [intOf]; omega
              · have q0 : decide ((uA : Int) ≤ (vB : Int)) = false := decide_eq_false (by omega)
                have HX := Lib.hid (show scanDown (fun z => ltU e[a]! z) e uA y = vB by
                  rw [← HSB.out]
                  cases vB with
                  | zero => rfl
                  | succ z => unfold scanDown; rw [if_neg (by simp; omega)])
                clear HSB
                have HD := Lib.hid D
                have HO := Lib.hid O
                clear D O
                go_wp2_with fail
                refine wp_region_quiet_below (by kernel_rfl) (by kernel_rfl) ?_
                repeat (go_big_quiet_step (fail))
                refine wpQuiet_nil ?_
                intro _ hw'
                obtain ⟨⟨dq, osq⟩, hw''⟩ := hw'
                subst hw''
                have hbr := below_regrown wr dq osq
                have D := HD.out.below hbr
                have O := HO.out.trans (Off.ofBelow hbr)
                clear hbr HD HO hg hgl q0
                dsimp only at D O ⊢
                generalize grow (redrawn wr dq) osq = WB at *
                have HN := Lib.hid (show partEqLoop ltU a x y e = if uA > vB then (uA, e) else partEqLoop ltU a (uA + 1) (vB - 1) (swp e uA vB) by rw [partEqLoop_eq]; simp only [HU.out, HX.out])
                by_cases hgt : vB < uA
                · have HN2 := Lib.hid (show (uA, e) = R by rw [← HR.out, HN.out, if_pos hgt])
                  have hgz : (vB : Int) < (uA : Int) := by omega
                  have HD := Lib.hid D
                  have HO := Lib.hid O
                  clear HR HN D O
                  go_wp2_with fail
                  go_ret
                  exact ⟨by rw [← HN2.out]; rfl, by rw [← HN2.out]; exact HD.out, HO.out⟩
                · exact absurd hle (by omega)
        · have q0 : decide ((uA : Int) ≤ (y : Int)) = false := decide_eq_false (by omega)
          have HX := Lib.hid (show scanUp (fun z => !ltU e[a]! z) e y x = uA by rw [← HSA.out, scanUp.eq_def, if_neg (by simp [hle])])
          clear HSA
          have HD := Lib.hid D
          have HO := Lib.hid O
          clear D O
          go_wp2_with fail
          refine wp_region_quiet_below (by kernel_rfl) (by kernel_rfl) ?_
          repeat (go_big_quiet_step (fail))
          refine wpQuiet_nil ?_
          intro _ hw'
          obtain ⟨⟨dq, osq⟩, hw''⟩ := hw'
          subst hw''
          have hbr := below_regrown wr dq osq
          have D := HD.out.below hbr
          have O := HO.out.trans (Off.ofBelow hbr)
          clear hbr HD HO hg hgl q0
          dsimp only at D O ⊢
          generalize grow (redrawn wr dq) osq = WA at *
          have HU := HX
          clear HX
          go_wp2_with fail
          go_loopw [10] (fun v wr => ∃ vB : Nat, v = .int .i64 vB ∧ vB ≤ y ∧ uA ≤ vB + 1 ∧ DAt wr g e ∧ Off (· = g) w wr ∧ Hid (scanDown (fun z => ltU e[a]! z) e uA vB = scanDown (fun z => ltU e[a]! z) e uA y)) (fun v _ => (intOf v).toNat)
          case atStart => exact ⟨y, by first | rfl | go_num, Nat.le_refl _, by omega, D, O, Lib.hid rfl⟩
          case round =>
            clear D O
            obtain ⟨vB, rfl, hvB0, hvB1, D, O, HSB⟩ := hrel
            have hg := gcell
            have hgl := D.lt
            by_cases hle : uA ≤ vB
            · exfalso; omega
            · have q0 : decide ((uA : Int) ≤ (vB : Int)) = false := decide_eq_false (by omega)
              have HX := Lib.hid (show scanDown (fun z => ltU e[a]! z) e uA y = vB by
                rw [← HSB.out]
                cases vB with
                | zero => rfl
                | succ z => unfold scanDown; rw [if_neg (by simp; omega)])
              clear HSB
              have HD := Lib.hid D
              have HO := Lib.hid O
              clear D O
              go_wp2_with fail
              refine wp_region_quiet_below (by kernel_rfl) (by kernel_rfl) ?_
              repeat (go_big_quiet_step (fail))
              refine wpQuiet_nil ?_
              intro _ hw'
              obtain ⟨⟨dq, osq⟩, hw''⟩ := hw'
              subst hw''
              have hbr := below_regrown wr dq osq
              have D := HD.out.below hbr
              have O := HO.out.trans (Off.ofBelow hbr)
              clear hbr HD HO hg hgl q0
              dsimp only at D O ⊢
              generalize grow (redrawn wr dq) osq = WB at *
              have HN := Lib.hid (show partEqLoop ltU a x y e = if uA > vB then (uA, e) else partEqLoop ltU a (uA + 1) (vB - 1) (swp e uA vB) by rw [partEqLoop_eq]; simp only [HU.out, HX.out])
              by_cases hgt : vB < uA
              · have HN2 := Lib.hid (show (uA, e) = R by rw [← HR.out, HN.out, if_pos hgt])
                have hgz : (vB : Int) < (uA : Int) := by omega
                have HD := Lib.hid D
                have HO := Lib.hid O
                clear HR HN D O
                go_wp2_with fail
                go_ret
                exact ⟨by rw [← HN2.out]; rfl, by rw [← HN2.out]; exact HD.out, HO.out⟩
              · exact absurd hle (by omega)
  · have hne : a ≠ p := by omega
    go_enter Try.func83, Try.ntmps83
    have c1 := D.c a (by omega)
    have c2 := D.c p (by omega)
    have f1 := D.f a (by omega)
    have f2 := D.f p (by omega)
    have HD2 := Lib.hid ((D.swap a p (by omega) (by omega)).kept (w' := (((w).setCell ⟨g, a, none⟩ (.int .u32 (d)[p]!)).setCell ⟨g, p, none⟩ (.int .u32 (d)[a]!)).drew) rfl (Nat.le_refl _))
    have HO2 := Lib.hid ((O.trans (off_swap (w) g a p (.int .u32 (d)[p]!) (.int .u32 (d)[a]!))).trans (off_drew _))
    generalize (d)[a]! = P1 at c1 c2 HD2 HO2
    generalize (d)[p]! = P2 at c1 c2 HD2 HO2
    clear D O
    go_wp2_with fail
    go_region
    clear c1 c2 f1 f2
    have D := HD2.out
    have O := HO2.out
    clear HD2 HO2
    generalize (((w).setCell ⟨g, a, none⟩ (.int .u32 P2)).setCell ⟨g, p, none⟩ (.int .u32 P1)).drew = W1 at *
    have hs0 : (swp d a p).size = d.size := swp_size d a p
    generalize swp d a p = d1 at *
    go_wp2_with fail
    go_loopw [9, 10] (fun v1 v2 wr => ∃ (x y : Nat) (e : Array Int), v1 = .int .i64 x ∧ v2 = .int .i64 y ∧ a < x ∧ x ≤ y + 1 ∧ y < b ∧ DAt wr g e ∧ Off (· = g) w wr ∧ e.size = d.size ∧ Hid (partEqLoop ltU a x y e = R)) (fun v1 v2 _ => (intOf v2).toNat + 1 - (intOf v1).toNat)
    case atStart => exact ⟨a + 1, b - 1, d1, by go_num, by go_num, by omega, by omega, by omega, D, O, hs0, HR⟩
    case round =>
      clear D O HR
      obtain ⟨x, y, e, rfl, rfl, hax, hxy, hyb, D, O, hes, HR⟩ := hrel
      go_wp2_with fail
      go_loopw [9] (fun v wr => ∃ uA : Nat, v = .int .i64 uA ∧ x ≤ uA ∧ uA ≤ y + 1 ∧ DAt wr g e ∧ Off (· = g) w wr ∧ Hid (scanUp (fun z => !ltU e[a]! z) e y uA = scanUp (fun z => !ltU e[a]! z) e y x)) (fun v _ => y + 1 - (intOf v).toNat)
      case atStart => exact ⟨x, by first | rfl | go_num, Nat.le_refl _, by omega, D, O, Lib.hid rfl⟩
      case round =>
        clear D O
        obtain ⟨uA, rfl, huA0, huA1, D, O, HSA⟩ := hrel
        have hg := gcell
        have hgl := D.lt
        by_cases hle : uA ≤ y
        · have q0 : decide ((uA : Int) ≤ (y : Int)) = true := decide_eq_true (by omega)
          have c1 := D.c uA (by omega)
          have c2 := D.c a (by omega)
          have HD := Lib.hid D
          have HO := Lib.hid O
          clear D O
          cases hq : ltU e[a]! e[uA]!
          · have CL := Lib.hid (fun w' => sLessB _ _ _ hq w')
            have HX := Lib.hid (show scanUp (fun z => !ltU e[a]! z) e y (uA + 1) = scanUp (fun z => !ltU e[a]! z) e y x by
              rw [← HSA.out]
              conv => rhs; rw [scanUp.eq_def]
              rw [if_pos (by simp [hle, hq])])
            clear hq
            go_wp2_with fail
            refine wp_region_quiet_below (by kernel_rfl) (by kernel_rfl) ?_
            repeat (go_big_quiet_step (first | (go_at_call 82; exact Calls.regrown_of (CL.out _))))
            refine wpQuiet_nil ?_
            intro _ hw'
            obtain ⟨⟨dq, osq⟩, hw''⟩ := hw'
            subst hw''
            have hbr := below_regrown wr dq osq
            have D1 := HD.out.below hbr
            have O1 := HO.out.trans (Off.ofBelow hbr)
            clear hbr
            go_wp2_with fail
            go_roundw
            case rel => exact ⟨uA + 1, by go_num, by omega, by omega, D1, O1, HX⟩
            case measure => simp [intOf]; omega
          · have CL := Lib.hid (fun w' => sLessB _ _ _ hq w')
            have HX := Lib.hid (show scanUp (fun z => !ltU e[a]! z) e y x = uA by rw [← HSA.out, scanUp.eq_def, if_neg (by simp [hq])])
            clear hq HSA
            go_wp2_with fail
            refine wp_region_quiet_below (by kernel_rfl) (by kernel_rfl) ?_
            repeat (go_big_quiet_step (first | (go_at_call 82; exact Calls.regrown_of (CL.out _))))
            refine wpQuiet_nil ?_
            intro _ hw'
            obtain ⟨⟨dq, osq⟩, hw''⟩ := hw'
            subst hw''
            have hbr := below_regrown wr dq osq
            have D := HD.out.below hbr
            have O := HO.out.trans (Off.ofBelow hbr)
            clear hbr HD HO CL hg hgl c1 c2 q0
            dsimp only at D O ⊢
            generalize grow (redrawn wr dq) osq = WA at *
            have HU := HX
            clear HX
            go_wp2_with fail
            go_loopw [10] (fun v wr => ∃ vB : Nat, v = .int .i64 vB ∧ vB ≤ y ∧ uA ≤ vB + 1 ∧ DAt wr g e ∧ Off (· = g) w wr ∧ Hid (scanDown (fun z => ltU e[a]! z) e uA vB = scanDown (fun z => ltU e[a]! z) e uA y)) (fun v _ => (intOf v).toNat)
            case atStart => exact ⟨y, by first | rfl | go_num, Nat.le_refl _, by omega, D, O, Lib.hid rfl⟩
            case round =>
              clear D O
              obtain ⟨vB, rfl, hvB0, hvB1, D, O, HSB⟩ := hrel
              have hg := gcell
              have hgl := D.lt
              by_cases hle : uA ≤ vB
              · have q0 : decide ((uA : Int) ≤ (vB : Int)) = true := decide_eq_true (by omega)
                obtain ⟨vBp, hvBp⟩ : ∃ z, vB = z + 1 := ⟨vB - 1, by omega⟩
                have c1 := D.c vB (by omega)
                have c2 := D.c a (by omega)
                have HD := Lib.hid D
                have HO := Lib.hid O
                clear D O
                cases hq : ltU e[a]! e[vB]!
                · have CL := Lib.hid (fun w' => sLessB _ _ _ hq w')
                  have HX := Lib.hid (show scanDown (fun z => ltU e[a]! z) e uA y = vB by rw [← HSB.out, hvBp]; unfold scanDown; rw [← hvBp, if_neg (by simp [hq])])
                  clear hq HSB hvBp
                  go_wp2_with fail
                  refine wp_region_quiet_below (by kernel_rfl) (by kernel_rfl) ?_
                  repeat (go_big_quiet_step (first | (go_at_call 82; exact Calls.regrown_of (CL.out _))))
                  refine wpQuiet_nil ?_
                  intro _ hw'
                  obtain ⟨⟨dq, osq⟩, hw''⟩ := hw'
                  subst hw''
                  have hbr := below_regrown wr dq osq
                  have D := HD.out.below hbr
                  have O := HO.out.trans (Off.ofBelow hbr)
                  clear hbr HD HO CL hg hgl c1 c2 q0
                  dsimp only at D O ⊢
                  generalize grow (redrawn wr dq) osq = WB at *
                  have HN := Lib.hid (show partEqLoop ltU a x y e = if uA > vB then (uA, e) else partEqLoop ltU a (uA + 1) (vB - 1) (swp e uA vB) by rw [partEqLoop_eq]; simp only [HU.out, HX.out])
                  by_cases hgt : vB < uA
                  · have HN2 := Lib.hid (show (uA, e) = R by rw [← HR.out, HN.out, if_pos hgt])
                    have hgz : (vB : Int) < (uA : Int) := by omega
                    have HD := Lib.hid D
                    have HO := Lib.hid O
                    clear HR HN D O
                    go_wp2_with fail
                    go_ret
                    exact ⟨by rw [← HN2.out]; rfl, by rw [← HN2.out]; exact HD.out, HO.out⟩
                  · have HN2 := Lib.hid (show partEqLoop ltU a (uA + 1) (vB - 1) (swp e uA vB) = R by rw [← HR.out, HN.out, if_neg hgt])
                    have hgz : ¬ (vB : Int) < (uA : Int) := by omega
                    clear HR HN
                    have hq : uA < vB := by have := scans_apart _ _ (fun z => by simp) e y x uA vB HU.out HX.out (by omega) (by omega) (by omega); omega
                    have hne : uA ≠ vB := by omega
                    have hb1 : uA < d.size := by omega
                    have hb2 : vB < d.size := by omega
                    have c1 := D.c uA (by omega)
                    have c2 := D.c vB (by omega)
                    have f1 := D.f uA (by omega)
                    have f2 := D.f vB (by omega)
                    have HD2 := Lib.hid ((D.swap uA vB (by omega) (by omega)).kept (w' := (((WB).setCell ⟨g, uA, none⟩ (.int .u32 (e)[vB]!)).setCell ⟨g, vB, none⟩ (.int .u32 (e)[uA]!)).drew) rfl (Nat.le_refl _))
                    have HO2 := Lib.hid ((O.trans (off_swap (WB) g uA vB (.int .u32 (e)[vB]!) (.int .u32 (e)[uA]!))).trans (off_drew _))
                    generalize (e)[uA]! = P1 at c1 c2 HD2 HO2
                    generalize (e)[vB]! = P2 at c1 c2 HD2 HO2
                    clear D O
                    go_wp2_with fail
                    go_region
                    clear c1 c2 f1 f2
                    have D := HD2.out
                    have O := HO2.out
                    clear HD2 HO2
                    generalize (((WB).setCell ⟨g, uA, none⟩ (.int .u32 P2)).setCell ⟨g, vB, none⟩ (.int .u32 P1)).drew = W9 at *
                    go_wp2_with fail
                    go_roundw
                    case rel => exact ⟨uA + 1, vB - 1, swp e uA vB, by go_num, by go_num, by omega, by omega, by omega, D, O, by rw [swp_size]; exact hes, HN2⟩
                    case measure => simp [intOf]; omega
                · have CL := Lib.hid (fun w' => sLessB _ _ _ hq w')
                  have HX := Lib.hid (show scanDown (fun z => ltU e[a]! z) e uA vBp = scanDown (fun z => ltU e[a]! z) e uA y by
                    rw [← HSB.out, hvBp]
                    conv => rhs; unfold scanDown
                    rw [← hvBp, if_pos (by simp [hle, hq])])
                  have ez : (vB : Int) - 1 = (vBp : Int) := by omega
                  clear hq hvBp
                  go_wp2_with fail
                  refine wp_region_quiet_below (by kernel_rfl) (by kernel_rfl) ?_
                  repeat (go_big_quiet_step (first | (go_at_call 82; exact Calls.regrown_of (CL.out _))))
                  refine wpQuiet_nil ?_
                  intro _ hw'
                  obtain ⟨⟨dq, osq⟩, hw''⟩ := hw'
                  subst hw''
                  have hbr := below_regrown wr dq osq
                  have D1 := HD.out.below hbr
                  have O1 := HO.out.trans (Off.ofBelow hbr)
                  clear hbr
                  go_wp2_with fail
                  go_roundw
                  case rel => exact ⟨vBp, by go_num, by omega, by omega, D1, O1, HX⟩
                  case measure => simp [intOf]; omega
              · have q0 : decide ((uA : Int) ≤ (vB : Int)) = false := decide_eq_false (by omega)
                have HX := Lib.hid (show scanDown (fun z => ltU e[a]! z) e uA y = vB by
                  rw [← HSB.out]
                  cases vB with
                  | zero => rfl
                  | succ z => unfold scanDown; rw [if_neg (by simp; omega)])
                clear HSB
                have HD := Lib.hid D
                have HO := Lib.hid O
                clear D O
                go_wp2_with fail
                refine wp_region_quiet_below (by kernel_rfl) (by kernel_rfl) ?_
                repeat (go_big_quiet_step (fail))
                refine wpQuiet_nil ?_
                intro _ hw'
                obtain ⟨⟨dq, osq⟩, hw''⟩ := hw'
                subst hw''
                have hbr := below_regrown wr dq osq
                have D := HD.out.below hbr
                have O := HO.out.trans (Off.ofBelow hbr)
                clear hbr HD HO hg hgl q0
                dsimp only at D O ⊢
                generalize grow (redrawn wr dq) osq = WB at *
                have HN := Lib.hid (show partEqLoop ltU a x y e = if uA > vB then (uA, e) else partEqLoop ltU a (uA + 1) (vB - 1) (swp e uA vB) by rw [partEqLoop_eq]; simp only [HU.out, HX.out])
                by_cases hgt : vB < uA
                · have HN2 := Lib.hid (show (uA, e) = R by rw [← HR.out, HN.out, if_pos hgt])
                  have hgz : (vB : Int) < (uA : Int) := by omega
                  have HD := Lib.hid D
                  have HO := Lib.hid O
                  clear HR HN D O
                  go_wp2_with fail
                  go_ret
                  exact ⟨by rw [← HN2.out]; rfl, by rw [← HN2.out]; exact HD.out, HO.out⟩
                · exact absurd hle (by omega)
        · have q0 : decide ((uA : Int) ≤ (y : Int)) = false := decide_eq_false (by omega)
          have HX := Lib.hid (show scanUp (fun z => !ltU e[a]! z) e y x = uA by rw [← HSA.out, scanUp.eq_def, if_neg (by simp [hle])])
          clear HSA
          have HD := Lib.hid D
          have HO := Lib.hid O
          clear D O
          go_wp2_with fail
          refine wp_region_quiet_below (by kernel_rfl) (by kernel_rfl) ?_
          repeat (go_big_quiet_step (fail))
          refine wpQuiet_nil ?_
          intro _ hw'
          obtain ⟨⟨dq, osq⟩, hw''⟩ := hw'
          subst hw''
          have hbr := below_regrown wr dq osq
          have D := HD.out.below hbr
          have O := HO.out.trans (Off.ofBelow hbr)
          clear hbr HD HO hg hgl q0
          dsimp only at D O ⊢
          generalize grow (redrawn wr dq) osq = WA at *
          have HU := HX
          clear HX
          go_wp2_with fail
          go_loopw [10] (fun v wr => ∃ vB : Nat, v = .int .i64 vB ∧ vB ≤ y ∧ uA ≤ vB + 1 ∧ DAt wr g e ∧ Off (· = g) w wr ∧ Hid (scanDown (fun z => ltU e[a]! z) e uA vB = scanDown (fun z => ltU e[a]! z) e uA y)) (fun v _ => (intOf v).toNat)
          case atStart => exact ⟨y, by first | rfl | go_num, Nat.le_refl _, by omega, D, O, Lib.hid rfl⟩
          case round =>
            clear D O
            obtain ⟨vB, rfl, hvB0, hvB1, D, O, HSB⟩ := hrel
            have hg := gcell
            have hgl := D.lt
            by_cases hle : uA ≤ vB
            · exfalso; omega
            · have q0 : decide ((uA : Int) ≤ (vB : Int)) = false := decide_eq_false (by omega)
              have HX := Lib.hid (show scanDown (fun z => ltU e[a]! z) e uA y = vB by
                rw [← HSB.out]
                cases vB with
                | zero => rfl
                | succ z => unfold scanDown; rw [if_neg (by simp; omega)])
              clear HSB
              have HD := Lib.hid D
              have HO := Lib.hid O
              clear D O
              go_wp2_with fail
              refine wp_region_quiet_below (by kernel_rfl) (by kernel_rfl) ?_
              repeat (go_big_quiet_step (fail))
              refine wpQuiet_nil ?_
              intro _ hw'
              obtain ⟨⟨dq, osq⟩, hw''⟩ := hw'
              subst hw''
              have hbr := below_regrown wr dq osq
              have D := HD.out.below hbr
              have O := HO.out.trans (Off.ofBelow hbr)
              clear hbr HD HO hg hgl q0
              dsimp only at D O ⊢
              generalize grow (redrawn wr dq) osq = WB at *
              have HN := Lib.hid (show partEqLoop ltU a x y e = if uA > vB then (uA, e) else partEqLoop ltU a (uA + 1) (vB - 1) (swp e uA vB) by rw [partEqLoop_eq]; simp only [HU.out, HX.out])
              by_cases hgt : vB < uA
              · have HN2 := Lib.hid (show (uA, e) = R by rw [← HR.out, HN.out, if_pos hgt])
                have hgz : (vB : Int) < (uA : Int) := by omega
                have HD := Lib.hid D
                have HO := Lib.hid O
                clear HR HN D O
                go_wp2_with fail
                go_ret
                exact ⟨by rw [← HN2.out]; rfl, by rw [← HN2.out]; exact HD.out, HO.out⟩
              · exact absurd hle (by omega)
end Go.Proofs.Ytafegmmcgghgaaa.B
