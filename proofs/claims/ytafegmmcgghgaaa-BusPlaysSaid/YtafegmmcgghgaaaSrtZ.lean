/- slices.Sort at uint32: pdqsort. -/
import Derived.Test.YtafegmmcgghgaaaSrtE
import Derived.Test.YtafegmmcgghgaaaSrtD
import Derived.Test.YtafegmmcgghgaaaSrtI
import Derived.Sort.Walk13a
import Derived.Sort.AssemblyPlain
namespace Go.Proofs.Ytafegmmcgghgaaa.B
set_option linter.unusedVariables false
set_option linter.unusedSimpArgs false
open Go.ChangeShapes Go.WideShapes Go.RowKit Go.Sort
theorem swo_ltU : SWO ltU := swo_ltInt
/-- A share of an eighth, in whole numbers. -/
theorem share8 {x y p q : Nat} (h1 : q ≤ p) (h2 : y ≤ x) : decide (((x : Int) - (y : Int)) / 8 ≤ (p : Int) - (q : Int)) = decide (p - q ≥ (x - y) / 8) := by
  by_cases h : p - q ≥ (x - y) / 8
  · rw [decide_eq_true h]; exact decide_eq_true (by omega)
  · rw [decide_eq_false h]; exact decide_eq_false (by omega)
theorem hintN_two {h : Hint} (e : hintN h = 2) : h = .decreasing := by cases h <;> simp [hintN] at e ⊢
set_option maxRecDepth 100000 in
set_option maxHeartbeats 25600000 in
theorem sPdq (g n cap : Nat) (hc : n ≤ cap) (hm : cap ≤ 9223372036854775807) (hm2 : n < 1152921504606846976) :
    ∀ (N a b limit : Nat) (d : Array Int) (w : World), b - a < N → d.size = n → DAt w g d → a ≤ b → b ≤ n → limit < 4611686018427387904 → Go.Sort.Below ltU a b d →
    Calls Try.prog 71 #[.slice (some ⟨g, 0, none⟩) n cap, .int .i64 a, .int .i64 b, .int .i64 limit] w
      fun e w' => e = .returned (.tuple #[]) ∧ DAt w' g (pdq ltU d a b limit true true) ∧ Off (· = g) w w' := by
  intro N
  induction N with
  | zero => intro _ _ _ _ _ h; exact absurd h (Nat.not_lt_zero _)
  | succ N ih =>
    intro a b limit d w hN hs D hab hb hlimit hBel0
    obtain ⟨R, hR⟩ : ∃ R, pdq ltU d a b limit true true = R := ⟨_, rfl⟩
    rw [hR]
    have HR := Lib.hid hR
    have HB0 := Lib.hid hBel0
    have IH := Lib.hid ih
    clear hR hBel0 ih
    go_enter Try.func71, Try.ntmps71
    go_wp2_with fail
    go_loopw [1, 2, 3, 8, 9] (fun s1 s2 s3 s8 s9 wr => ∃ (x y lim : Nat) (wb wp : Bool) (e : Array Int), s1 = .int .i64 x ∧ s2 = .int .i64 y ∧ s3 = .int .i64 lim ∧ s8 = .bool wb ∧ s9 = .bool wp ∧ x ≤ y ∧ y ≤ n ∧ y - x ≤ b - a ∧ lim ≤ limit ∧ e.size = n ∧ Hid (Go.Sort.Below ltU x y e) ∧ DAt wr g e ∧ Off (· = g) w wr ∧ Hid (pdq ltU e x y lim wb wp = R)) (fun s1 s2 s3 s8 s9 _ => (intOf s2).toNat - (intOf s1).toNat)
    case atStart => exact ⟨a, b, limit, true, true, d, rfl, rfl, rfl, rfl, rfl, hab, hb, Nat.le_refl _, Nat.le_refl _, hs, HB0, D, Off.refl _ _, HR⟩
    case round =>
      clear D HR HB0 hs
      obtain ⟨x, y, lim, wb, wp, e, rfl, rfl, rfl, rfl, rfl, hxy, hyn, hle, hll, hes, HB, D, O, HR⟩ := hrel
      by_cases h12 : y - x ≤ 12
      · have h12z : (y : Int) - (x : Int) ≤ 12 := by omega
        have HC := Lib.hid (sInsertion g n cap x y e wr D hxy (by omega) hes hc hm (by omega))
        have HX := Lib.hid (show insertionSort ltU e x y = R by rw [← HR.out, pdq_small h12])
        clear D HR
        go_wp2_with fail
        refine HC.out.mono ?_
        rintro e' w1 ⟨rfl, D1, o1⟩
        have HD := Lib.hid D1
        have HO := Lib.hid (O.trans o1)
        clear D1 o1 O
        go_wp2_with fail
        refine bodyPost_ret (v := .tuple #[]) (by simp [results, Try.results71, go_sem]) rfl ⟨rfl, by rw [← HX.out]; exact HD.out, HO.out⟩
      · have h12z : ¬ (y : Int) - (x : Int) ≤ 12 := by omega
        by_cases hl0 : lim = 0
        · subst hl0
          have HC := Lib.hid (sHeap g n cap x y e wr D hxy (by omega) hes hc hm hm2)
          have HX := Lib.hid (show heapSort ltU e x y = R by rw [← HR.out, pdq_heap h12 rfl])
          clear D HR
          go_wp2_with fail
          refine HC.out.mono ?_
          rintro e' w1 ⟨rfl, D1, o1⟩
          have HD := Lib.hid D1
          have HO := Lib.hid (O.trans o1)
          clear D1 o1 O
          go_wp2_with fail
          refine bodyPost_ret (v := .tuple #[]) (by simp [results, Try.results71, go_sem]) rfl ⟨rfl, by rw [← HX.out]; exact HD.out, HO.out⟩
        · have hl0z : ((lim : Int) == 0) = false := by simp; omega
          obtain ⟨s1, B1, hc1, s2, B2, hpv, s3, B3⟩ := rd_facts (lt := ltU) (limit := lim) (wb := wb) (wp := wp) swo_ltU partialInsertionSort_holds reverseRange_holds (show x < y by omega) (show y ≤ e.size by omega) HB.out
          have HDone := Lib.hid (fun (h : (rd ltU e x y lim wb wp).pi.2 = true) => show (rd ltU e x y lim wb wp).pi.1 = R by rw [← HR.out, pdq_done h12 hl0 h])
          have HEq := Lib.hid (fun (h1 : (rd ltU e x y lim wb wp).pi.2 = false) (h2 : (decide (x > 0) && !ltU (rd ltU e x y lim wb wp).pi.1[x - 1]! (rd ltU e x y lim wb wp).pi.1[(rd ltU e x y lim wb wp).pivot]!) = true) (mid : Nat) (d4 : Array Int) (hx : partitionEqual ltU (rd ltU e x y lim wb wp).pi.1 x y (rd ltU e x y lim wb wp).pivot = (mid, d4)) (h3 : x < mid ∧ mid ≤ y) =>
            show pdq ltU d4 mid y (rd ltU e x y lim wb wp).lim wb wp = R by rw [← HR.out, pdq_eq h12 hl0 h1 h2 (by rw [hx]; exact h3), hx])
          have HLeft := Lib.hid (fun (h1 : (rd ltU e x y lim wb wp).pi.2 = false) (h2 : (decide (x > 0) && !ltU (rd ltU e x y lim wb wp).pi.1[x - 1]! (rd ltU e x y lim wb wp).pi.1[(rd ltU e x y lim wb wp).pivot]!) = false) (mid : Nat) (ap : Bool) (d4 : Array Int) (hx : partition ltU (rd ltU e x y lim wb wp).pi.1 x y (rd ltU e x y lim wb wp).pivot = (mid, ap, d4)) (h3 : x ≤ mid ∧ mid < y) (h4 : mid - x < y - mid) =>
            show pdq ltU (pdq ltU d4 x mid (rd ltU e x y lim wb wp).lim true true) (mid + 1) y (rd ltU e x y lim wb wp).lim (decide (mid - x ≥ (y - x) / 8)) ap = R by rw [← HR.out, pdq_left h12 hl0 h1 h2 (by rw [hx]; exact h3) (by rw [hx]; exact h4), hx])
          have HRight := Lib.hid (fun (h1 : (rd ltU e x y lim wb wp).pi.2 = false) (h2 : (decide (x > 0) && !ltU (rd ltU e x y lim wb wp).pi.1[x - 1]! (rd ltU e x y lim wb wp).pi.1[(rd ltU e x y lim wb wp).pivot]!) = false) (mid : Nat) (ap : Bool) (d4 : Array Int) (hx : partition ltU (rd ltU e x y lim wb wp).pi.1 x y (rd ltU e x y lim wb wp).pivot = (mid, ap, d4)) (h3 : x ≤ mid ∧ mid < y) (h4 : ¬ mid - x < y - mid) =>
            show pdq ltU (pdq ltU d4 (mid + 1) y (rd ltU e x y lim wb wp).lim true true) x mid (rd ltU e x y lim wb wp).lim (decide (y - mid ≥ (y - x) / 8)) ap = R by rw [← HR.out, pdq_right h12 hl0 h1 h2 (by rw [hx]; exact h3) (by rw [hx]; exact h4), hx])
          have F1 : Hid ((wb = false → (rd ltU e x y lim wb wp).d1 = breakPatterns e x y ∧ (rd ltU e x y lim wb wp).lim = lim - 1) ∧ (wb = true → (rd ltU e x y lim wb wp).d1 = e ∧ (rd ltU e x y lim wb wp).lim = lim)) :=
            Lib.hid ⟨fun h => by subst h; exact rd_false, fun h => by subst h; exact rd_true⟩
          have FC : Hid ((rd ltU e x y lim wb wp).c = choosePivot ltU (rd ltU e x y lim wb wp).d1 x y) := Lib.hid rd_c
          have FD := Lib.hid (fun (hh : (rd ltU e x y lim wb wp).c.2 = .decreasing) => rd_dec hh)
          have FN := Lib.hid (fun (hh : (rd ltU e x y lim wb wp).c.2 ≠ .decreasing) => rd_not hh)
          have FY := Lib.hid (fun (hh : (wb && wp && decide ((rd ltU e x y lim wb wp).hint = .increasing)) = true) => rd_pi_yes hh)
          have FO := Lib.hid (fun (hh : (wb && wp && decide ((rd ltU e x y lim wb wp).hint = .increasing)) = false) => rd_pi_no hh)
          have FL : (rd ltU e x y lim wb wp).lim ≤ lim := rd_lim_le
          generalize rd ltU e x y lim wb wp = r at *
          obtain ⟨d1, L, c, d2, pv, hint, pi⟩ := r
          simp only at s1 B1 hc1 s2 B2 hpv s3 B3 HDone HEq HLeft HRight F1 FC FD FN FY FO FL
          have HB3 := Lib.hid B3
          clear HR HB B1 B2 B3
          have hxy2 : x < y := by omega
          go_upto_if 35 with fail
          go_cut [3] from 19 to 133 (fun s3 wc => s3 = .int .i64 L ∧ DAt wc g d1 ∧ Off (· = g) w wc)
          case first =>
            have HO := Lib.hid O
            cases wb
            · obtain ⟨f1, f2⟩ := F1.out.1 rfl
              have HC := Lib.hid (sBreak g n cap x y e wr D hxy (by omega) hes hc hm hm2)
              clear D O
              go_wp2_with fail
              refine HC.out.mono ?_
              rintro e' w1 ⟨rfl, D1, o1⟩
              have HD := Lib.hid D1
              have HO2 := Lib.hid (HO.out.trans o1)
              clear D1 o1
              go_wp2_with fail
              go_meet
              case rel => exact ⟨int_of (by rw [f2]; omega), by rw [f1]; exact HD.out, HO2.out⟩
            · obtain ⟨f1, f2⟩ := F1.out.2 rfl
              have HD := Lib.hid D
              clear D O
              go_wp2_with fail
              go_meet
              case rel => exact ⟨int_of (by rw [f2]), by rw [f1]; exact HD.out, HO.out⟩
          case rest =>
            clear D O
            obtain ⟨rfl, D, O⟩ := hcut
            have HP := Lib.hid (by have := sPivot g n cap x y d1 wc D hxy2 (by omega) (s1.trans hes) hc hm hm2; rw [← FC.out] at this; exact this)
            have HD := Lib.hid D
            have HO := Lib.hid O
            clear D O
            go_upto_if 50 with (go_at_call 79; refine HP.out.mono ?_; rintro e' w2 ⟨rfl, hb2⟩)
            have D := HD.out.below hb2
            have O := HO.out.trans (Off.ofBelow hb2)
            clear HD HO hb2 HP
            go_cut [11, 12] from 19 to 133 (fun s11 s12 wc => s11 = .int .i64 pv ∧ s12 = .int .i64 (hintN hint) ∧ DAt wc g d2 ∧ Off (· = g) w wc)
            case first =>
              have HO := Lib.hid O
              by_cases hh : c.2 = .decreasing
              · obtain ⟨e2, epv, eht⟩ := FD.out hh
                have hcode : hintN c.2 = 2 := by rw [hh]; rfl
                have HC := Lib.hid (sReverse g n cap x y d1 w2 D hxy2 (by omega) (s1.trans hes) hc hm)
                have hc0 := hc1
                clear D O
                go_wp2_with fail
                refine HC.out.mono ?_
                rintro e' w1 ⟨rfl, D1, o1⟩
                have HD := Lib.hid D1
                have HO2 := Lib.hid (HO.out.trans o1)
                clear D1 o1
                go_wp2_with fail
                go_meet
                case rel => exact ⟨by first | (rw [epv]; exact int_of (by omega)) | (rw [epv]; go_num), by rw [eht]; rfl, by rw [e2]; exact HD.out, HO2.out⟩
              · obtain ⟨e2, epv, eht⟩ := FN.out hh
                have hcode : (hintN c.2 == 2) = false := by simp; exact fun h => hh (hintN_two h)
                have HD := Lib.hid D
                clear D O
                go_wp2_with fail
                go_meet
                case rel => exact ⟨by rw [epv], by rw [eht], by rw [e2]; exact HD.out, HO.out⟩
            case rest =>
              clear D O
              obtain ⟨rfl, rfl, D, O⟩ := hcut
              go_upto_region 15 with fail
              go_cut [12, 68] from 19 to 133 (fun s12 s68 wx => s12 = .int .i64 (hintN hint) ∧ s68 = .bool (wb && wp && decide (hint = .increasing)) ∧ wx = wc)
              case first =>
                clear D O HDone HEq HLeft HRight F1 FC FD FN FY FO HB3
                clear IH hN hab hb hlimit hle hll s1 s2 s3 hc1 hpv FL
                cases wb
                · go_wp2_with fail
                  go_meet
                  exact ⟨rfl, rfl, rfl⟩
                · cases wp
                  · go_wp2_with fail
                    go_meet
                    exact ⟨rfl, rfl, rfl⟩
                  · by_cases hh : hint = .increasing
                    · have q1 : (hintN hint == 1) = true := by rw [hh]; rfl
                      go_wp2_with fail
                      go_meet
                      exact ⟨rfl, by simp [hh, hintN], rfl⟩
                    · have q1 : (hintN hint == 1) = false := by
                        cases hint
                        · rfl
                        · exact absurd rfl hh
                        · rfl
                      go_wp2_with fail
                      go_meet
                      exact ⟨rfl, by simp [hh, hintN], rfl⟩
              case rest =>
                obtain ⟨rfl, rfl, rfl⟩ := hcut
                go_upto_if 68 with fail
                go_cut [] from 19 to 133 (fun wx => pi.2 = false ∧ DAt wx g pi.1 ∧ Off (· = g) w wx)
                case first =>
                  have HO := Lib.hid O
                  clear IH hN hab hb hlimit hle hll hc1 hpv FL HEq HLeft HRight F1 FC FD FN HB3 s1 s3
                  cases h68 : (wb && wp && decide (hint = .increasing))
                  · have epi := FO.out h68
                    have HD := Lib.hid D
                    clear D O
                    go_wp2_with fail
                    go_meet
                    case rel => exact ⟨by rw [epi], by rw [epi]; exact HD.out, HO.out⟩
                  · have epi := FY.out h68
                    have HC := Lib.hid (by have := sPIns g n cap x y d2 _ D hxy2 (by omega) (s2.trans hes) hc hm hm2; rw [← epi] at this; exact this)
                    clear D O epi
                    cases hp2 : pi.2
                    · rw [hp2] at HC
                      go_wp2_with fail
                      refine HC.out.mono ?_
                      rintro e' w1 ⟨rfl, D1, o1⟩
                      have HD := Lib.hid D1
                      have HO2 := Lib.hid (HO.out.trans o1)
                      clear D1 o1
                      go_wp2_with fail
                      go_meet
                      case rel => exact ⟨hp2, HD.out, HO2.out⟩
                    · have HX := Lib.hid (HDone.out hp2)
                      rw [hp2] at HC
                      go_wp2_with fail
                      refine HC.out.mono ?_
                      rintro e' w1 ⟨rfl, D1, o1⟩
                      have HD := Lib.hid D1
                      have HO2 := Lib.hid (HO.out.trans o1)
                      clear D1 o1
                      go_wp2_with fail
                      refine bodyPost_ret (v := .tuple #[]) (by simp [results, Try.results71, go_sem]) rfl ⟨rfl, by rw [← HX.out]; exact HD.out, HO2.out⟩
                case rest =>
                  clear D O
                  obtain ⟨hp2, D, O⟩ := hcut
                  obtain ⟨q, pf⟩ := pi
                  simp only at hp2 D s3 HDone HEq HLeft HRight HB3
                  have HP2 := Lib.hid hp2
                  clear hp2 HDone F1 FC FD FN FY FO
                  have hqn : q.size = n := s3.trans hes
                  obtain ⟨bt, hbt⟩ : ∃ bt, (decide (x > 0) && !ltU q[x - 1]! q[pv]!) = bt := ⟨_, rfl⟩
                  go_upto_region 17 with fail
                  go_cut [87] from 19 to 133 (fun s87 wx => s87 = .bool bt ∧ DAt wx g q ∧ Off (· = g) w wx)
                  case first =>
                    have HO := Lib.hid O
                    have hgl := D.lt
                    have hg := gcell
                    rcases Nat.eq_zero_or_pos x with hx0 | hx0
                    · have q0 : decide ((0 : Int) < (x : Int)) = false := decide_eq_false (by omega)
                      have q1 : decide (0 < x) = false := decide_eq_false (by omega)
                      have q2 : ¬ ((0 : Int) < (x : Int)) := by omega
                      have q3 : ¬ (0 < x) := by omega
                      have hb0 : bt = false := by rw [← hbt]; simp [hx0]
                      have HD := Lib.hid D
                      clear D O hbt hx0 HEq HLeft HRight
                      go_wp2_with fail
                      refine wp_region_quiet_below (by kernel_rfl) (by kernel_rfl) ?_
                      repeat (go_big_quiet_step (fail))
                      refine wpQuiet_nil ?_
                      intro _ hw'
                      obtain ⟨⟨dq, osq⟩, hw''⟩ := hw'
                      subst hw''
                      have hbr := below_regrown wc dq osq
                      go_wp2_with fail
                      go_meet
                      case rel => exact ⟨by rw [hb0], HD.out.below hbr, HO.out.trans (Off.ofBelow hbr)⟩
                    · have q0 : decide ((0 : Int) < (x : Int)) = true := decide_eq_true (by omega)
                      obtain ⟨xm, hxm⟩ : ∃ z, x = z + 1 := ⟨x - 1, by omega⟩
                      have em : (x : Int) - 1 = (xm : Int) := by omega
                      have exm : x - 1 = xm := by omega
                      have c1 := D.c xm (by omega)
                      have c2 := D.c pv (by omega)
                      have HD := Lib.hid D
                      cases hl : ltU q[xm]! q[pv]!
                      all_goals
                        have hb0 : bt = !ltU q[xm]! q[pv]! := by rw [← hbt, exm, decide_eq_true hx0, Bool.true_and]
                        rw [hl] at hb0
                        have CL := Lib.hid (fun w' => sLessB _ _ _ hl w')
                        have hpvn : pv < n := by omega
                        have hxn : xm < n := by omega
                        clear hl hxm exm hqn s3
                        generalize q[xm]! = P1 at *
                        generalize q[pv]! = P2 at *
                        clear D O hbt HEq HLeft HRight
                        go_wp2_with fail
                        refine wp_region_quiet_below (by kernel_rfl) (by kernel_rfl) ?_
                        repeat (go_big_quiet_step (first | (go_at_call 82; exact Calls.regrown_of (CL.out _))))
                        refine wpQuiet_nil ?_
                        intro _ hw'
                        obtain ⟨⟨dq, osq⟩, hw''⟩ := hw'
                        subst hw''
                        have hbr := below_regrown wc dq osq
                        go_wp2_with fail
                        go_meet
                        case rel => exact ⟨by rw [hb0]; rfl, HD.out.below hbr, HO.out.trans (Off.ofBelow hbr)⟩
                  case rest =>
                    clear D O
                    obtain ⟨rfl, D, O⟩ := hcut
                    have HO := Lib.hid O
                    have HBT := Lib.hid hbt
                    clear hbt
                    cases bt
                    · obtain ⟨mid, ap, d4, hx⟩ : ∃ mid ap d4, partition ltU q x y pv = (mid, ap, d4) := ⟨_, _, _, rfl⟩
                      obtain ⟨r1, r2, r3, r4, r5, r6, r7⟩ := round_part swo_ltU (partition_holds ltU) hpv.1 hpv.2 (show y ≤ q.size by omega) HB3.out hx
                      have HC := Lib.hid (by have := sPart g n cap x y pv q _ D hxy2 (by omega) hpv.1 hpv.2 hqn hc hm hm2; rw [hx] at this; exact this)
                      have HX := Lib.hid hx
                      have hs4 : d4.size = n := r3.trans hqn
                      clear D O hx
                      go_upto_if 113 with (go_at_call 84; refine HC.out.mono ?_; rintro e' w7 ⟨rfl, D7, o7⟩)
                      have HO7 := Lib.hid (HO.out.trans o7)
                      clear HC HO o7
                      by_cases h4 : mid - x < y - mid
                      · have h4z : (mid : Int) - (x : Int) < (y : Int) - (mid : Int) := by omega
                        have HI := Lib.hid (IH.out x mid L d4 w7 (by omega) hs4 D7 (by omega) (by omega) (by omega) r4)
                        obtain ⟨pL, sL⟩ := pdq_sorts ltU swo_ltU d4 x mid L true true (by omega) (by omega) r4
                        have HBl := Lib.hid (r6 _ pL sL).1
                        have hsz : (pdq ltU d4 x mid L true true).size = n := pL.1.trans hs4
                        have HF := Lib.hid (HLeft.out HP2.out HBT.out mid ap d4 HX.out ⟨r1, r2⟩ h4)
                        have HE8 := Lib.hid (share8 (x := y) (y := x) (p := mid) (q := x) (by omega) (by omega))
                        clear D7 HLeft HRight HEq HX HBT HP2 HB3 IH pL sL r3 r4 r5 r6 r7 hs4
                        generalize pdq ltU d4 x mid L true true = dL at *
                        go_wp2_with fail
                        refine HI.out.mono ?_
                        rintro e' w8 ⟨rfl, D8, o8⟩
                        have HD8 := Lib.hid D8
                        have HO8 := Lib.hid (HO7.out.trans o8)
                        clear D8 o8 HI HO7
                        go_wp2_with fail
                        go_roundw
                        case measure => simp [intOf]; omega
                        case rel => exact ⟨mid + 1, y, L, decide (mid - x ≥ (y - x) / 8), ap, dL, by first | rfl | go_num, rfl, rfl, congrArg Value.bool HE8.out, rfl, by omega, by omega, by omega, by omega, hsz, HBl, HD8.out, HO8.out, HF⟩
                      · have h4z : ¬ (mid : Int) - (x : Int) < (y : Int) - (mid : Int) := by omega
                        have HI := Lib.hid (IH.out (mid + 1) y L d4 w7 (by omega) hs4 D7 (by omega) (by omega) (by omega) r5)
                        obtain ⟨pL, sL⟩ := pdq_sorts ltU swo_ltU d4 (mid + 1) y L true true (by omega) (by omega) r5
                        have HBl := Lib.hid (r7 _ pL sL).1
                        have hsz : (pdq ltU d4 (mid + 1) y L true true).size = n := pL.1.trans hs4
                        have HF := Lib.hid (HRight.out HP2.out HBT.out mid ap d4 HX.out ⟨r1, r2⟩ h4)
                        have HE8 := Lib.hid (share8 (x := y) (y := x) (p := y) (q := mid) (by omega) (by omega))
                        clear D7 HLeft HRight HEq HX HBT HP2 HB3 IH pL sL r3 r4 r5 r6 r7 hs4
                        generalize pdq ltU d4 (mid + 1) y L true true = dL at *
                        go_wp2_with fail
                        refine HI.out.mono ?_
                        rintro e' w8 ⟨rfl, D8, o8⟩
                        have HD8 := Lib.hid D8
                        have HO8 := Lib.hid (HO7.out.trans o8)
                        clear D8 o8 HI HO7
                        go_wp2_with fail
                        go_roundw
                        case measure => simp [intOf]; omega
                        case rel => exact ⟨x, mid, L, decide (y - mid ≥ (y - x) / 8), ap, dL, rfl, rfl, rfl, congrArg Value.bool HE8.out, rfl, by omega, by omega, by omega, by omega, hsz, HBl, HD8.out, HO8.out, HF⟩
                    · have h87 := HBT.out
                      simp only [Bool.and_eq_true, decide_eq_true_eq, Bool.not_eq_true'] at h87
                      obtain ⟨mid, d4, hx⟩ : ∃ mid d4, partitionEqual ltU q x y pv = (mid, d4) := ⟨_, _, rfl⟩
                      obtain ⟨r1, r2, r3, r4, _⟩ := round_eq swo_ltU (partitionEqual_holds ltU) h87.1 hpv.1 hpv.2 (show y ≤ q.size by omega) HB3.out h87.2 hx
                      have HC := Lib.hid (by have := sPartEq g n cap x y pv q _ D hxy2 (by omega) hpv.1 hpv.2 hqn hc hm hm2; rw [hx] at this; exact this)
                      have HF := Lib.hid (HEq.out HP2.out HBT.out mid d4 hx ⟨r1, r2⟩)
                      have hs4 : d4.size = n := r3.trans hqn
                      have HB4 := Lib.hid r4
                      clear D O hx h87 HEq HLeft HRight HBT HP2 HB3 IH r3 r4
                      go_wp2_with fail
                      refine HC.out.mono ?_
                      rintro e' w7 ⟨rfl, D7, o7⟩
                      have HD7 := Lib.hid D7
                      have HO7 := Lib.hid (HO.out.trans o7)
                      clear D7 o7 HC HO
                      go_wp2_with fail
                      go_roundw
                      case measure => simp [intOf]; omega
                      case rel => exact ⟨mid, y, L, wb, wp, d4, rfl, rfl, rfl, rfl, rfl, r2, by omega, by omega, by omega, hs4, HB4, HD7.out, HO7.out, HF⟩
end Go.Proofs.Ytafegmmcgghgaaa.B
