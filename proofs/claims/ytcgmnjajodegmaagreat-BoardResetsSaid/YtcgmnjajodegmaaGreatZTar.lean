/- Several texts in one: The document's own answers of layer 6: many ticks. The document's Load and Store of a row of timers. The document's row at .. -/
import Derived.Test.YtcgmnjajodegmaaGreatZTag
import Derived.Test.YtcgmnjajodegmaaGreatZTan
import Derived.Test.YtcgmnjajodegmaaGreatZTao
import Derived.Test.YtcgmnjajodegmaaGreatZTaq
import Derived.Deep.Cut
set_option linter.unusedVariables false
set_option linter.unusedSimpArgs false
set_option maxRecDepth 100000
namespace Go.Proofs.YtcgmnjajodegmaaGreat.B
open Go.ChangeShapes Go.WideShapes Go.RowKit Go.Sort
theorem Tm.exp_left2 {t : Tm} (he : t.exp.en = true) (o : t.ok) : t.exp.left = t.exp.ld * (t.exp.sc + 1) := by
 have h := Tm.exp_left he o.l0
 have e1 : t.exp.ld = t.ld := by unfold Tm.exp; split <;> rfl
 have e2 : t.exp.sc = t.sc := by unfold Tm.exp; split <;> rfl
 rw [e1, e2]; exact h.1
theorem lat_eq (s : Tm) (m V F : Int) (hV : s.v - (s.ph + m) / (s.sc + 1) = V) (hF : (s.ph + m) % (s.sc + 1) = F) : ({ s with v := V, ph := F } : Tm) = s.lat m := by
 subst hV hF; rfl
set_option maxHeartbeats 1600000 in
theorem mTick (t : Tm) (n : Int) (w : World) (h : t.ok) (n0 : 0 <= n) (n1 : n < 18446744073709551616) :
 Calls Tryz.prog 150 #[.agg (rl t).toArray, .int .u64 n] w fun e w' => e = .returned (.agg (rl (t.tick n)).toArray) /\ Below w.heap.size w w' := by
 obtain ⟨R, hR⟩ : ∃ R, t.tick n = R := ⟨_, rfl⟩
 rw [hR]
 have HR := Hd hR
 clear hR
 have hB := trA (trA (tr0 w) (oM t)) zM
 have X : MAt ((w.alloc (oM t)).alloc zM) w.heap.size t := b2_0 w (oM t) zM
 have Y : MAt ((w.alloc (oM t)).alloc zM) (w.heap.size + 1) tz := b2_1 w (oM t) zM
 go_enter Tryz.func150, Tryz.ntmps150
 go_upto_region 1 with (fail)
 rw [show Obj.cells (rl t).toArray 171 (0, 0) = oM t from rfl, zM_eq]
 generalize ((w.alloc (oM t)).alloc zM) = W at *
 go_loopw [1] (fun x wr => ∃ (m : Int) (s : Tm), x = .int .u64 m /\ 0 <= m /\ m < 18446744073709551616 /\ s.ok /\ MAt wr w.heap.size s /\ MAt wr (w.heap.size + 1) tz /\ Below w.heap.size w wr /\ Hid (s.tick m = R)) (fun x wr => (intOf x).toNat)
 case atStart => exact ⟨n, t, rfl, n0, n1, h, X, Y, hB, HR⟩
 case round =>
  clear X Y hB h HR n0 n1
  obtain ⟨m, s, rfl, m0, m1, h, X, Y, hB, HR⟩ := hrel
  have hL := h.left
  have x2 := X.c2
  by_cases hm : m = 0
  . subst hm
    have hs : s = R := by rw [<- HR.out, Tm.tick_zero h]
    have Z := MAt.row Y s
    have hB2 := below_setRow hB (rl s).toArray (g := w.heap.size + 1) (by omega)
    cases hen : s.en
    all_goals
     rw [hen] at x2
     go_wp2_with (first | (refine loadM rfl (.tmp 2) rfl rfl X ?_) | (refine storeM rfl (.tmp 4) (.tmp 48) rfl rfl (t := s) rfl Y ?_))
     refine bodyPost_ret (resM rfl _ _ rfl Z) rfl ⟨by rw [hs], hB2⟩
  . have hm2 : 0 < m := by omega
    have hm3 : (m == 0) = false := by simpa using hm
    clear hm
    cases hen : s.en
    . rw [hen] at x2
      have hs : s = R := by rw [<- HR.out, Tm.tick_off hen]
      have Z := MAt.row Y s
      have hB2 := below_setRow hB (rl s).toArray (g := w.heap.size + 1) (by omega)
      clear HR
      go_wp2_with (first | (refine loadM rfl (.tmp 2) rfl rfl X ?_) | (refine storeM rfl (.tmp 4) (.tmp 48) rfl rfl (t := s) rfl Y ?_))
      refine bodyPost_ret (resM rfl _ _ rfl Z) rfl ⟨by rw [hs], hB2⟩
    . rw [hen] at x2
      have LF : Hid (∀ w, Calls Tryz.prog 158 #[.agg (rl s).toArray] w fun e w' => e = .returned (.int .u64 s.left) /\ Below w.heap.size w w') :=
       Hd (fun w => by have := mLeft s w h; unfold Tm.lef at this; rw [if_pos hen] at this; exact this)
      go_wp2_with (refine loadMg (.tmp 2) rfl rfl rfl X ?_)
      refine (LF.out _).mono ?_
      rintro e W1 ⟨rfl, hb⟩
      have X1 := X.below hb
      have Y1 := Y.below hb
      have hB1 := tr hB hb
      clear X Y hB hb x2
      by_cases hle : s.left <= m
      . have HE := Hd (show s.exp.tick (m - s.left) = R by rw [<- Tm.tick_ge h hen hle]; exact HR.out)
        clear HR
        go_wp2_with (refine loadM rfl (.tmp 2) rfl rfl X1 ?_)
        refine (LF.out _).mono ?_
        rintro e W2 ⟨rfl, hb⟩
        have X := X1.below hb
        have Y := Y1.below hb
        have hB := tr hB1 hb
        clear X1 Y1 hB1 hb LF
        have x1 := X.c1
        have x5 := X.c5
        have x6 := X.c6
        have f1 := X.free 1
        have f6 := X.free 6
        go_upto_region 4 with (fail)
        have X1 : MAt _ _ { s with v := 1, ph := s.sc } := (X.s6 s.sc).s1 1
        have Y1 := (Y.other w.heap.size 6 (.int .u32 s.sc) (by omega)).other w.heap.size 1 (.int .u32 1) (by omega)
        have hB1 := (hB.setCell (p := ⟨w.heap.size, 6, none⟩) (by simp) (.int .u32 s.sc)).setCell (p := ⟨w.heap.size, 1, none⟩) (by simp) (.int .u32 1)
        clear X Y hB x1 x5 x6 f1 f6
        generalize ((W2.setCell ⟨w.heap.size, 6, none⟩ (.int .u32 s.sc)).setCell ⟨w.heap.size, 1, none⟩ (.int .u32 1)) = W3 at *
        have ho : ({ s with v := 1, ph := s.sc } : Tm).ok := ⟨h.l0, h.l1, by show (0 : Int) <= 1; omega, by show (1 : Int) < 4294967296; omega, h.s0, h.s1, h.s0, Int.le_refl _⟩
        have ON := Hd (fun w => by have := mOne { s with v := 1, ph := s.sc } w ho; rw [Tm.one_exp hen] at this; exact this)
        have hEo := Tm.exp_ok h
        have hEL := hEo.left
        have HX : Hid (s.exp.en = true -> s.exp.left = s.exp.ld * (s.exp.sc + 1)) := Hd fun he => Tm.exp_left2 he h
        have HM : Hid (s.exp.en = true -> s.exp.exp = s.exp) := Hd fun he => (Tm.exp_again he hen).1
        clear h ho
        generalize ({ s with v := 1, ph := s.sc } : Tm) = s1 at *
        generalize s.exp = E at *
        go_wp2_with (refine loadM rfl (.tmp 2) rfl rfl X1 ?_)
        refine (ON.out _).mono ?_
        rintro e W4 ⟨rfl, hb⟩
        have X2 := X1.below hb
        have Y2 := Y1.below hb
        have hB2 := tr hB1 hb
        clear X1 Y1 hB1 hb ON
        have X := MAt.row X2 E
        have Y := Y2.elseRow w.heap.size (rl E).toArray (by omega)
        have hB := below_setRow hB2 (rl E).toArray (Nat.le_refl w.heap.size)
        go_upto_region 5 with (refine storeM rfl (.tmp 2) (.tmp 28) rfl rfl rfl X2 ?_)
        clear X2 Y2 hB2
        generalize W4.setRow w.heap.size (rl E).toArray = W5 at *
        have x0 := X.c0
        have x2 := X.c2
        have x5 := X.c5
        cases hE : E.en
        . rw [hE] at x2
          go_wp2_with fail
          go_roundw
          case rel => exact ⟨m - s.left, E, rfl, by omega, by omega, hEo, X, Y, hB, HE⟩
          case measure => simp [intOf]; omega
        . rw [hE] at x2
          have hx := HX.out hE
          have hm := mod_bounds (a := m - s.left) (u := E.left) (by omega)
          have hm4 : (m - s.left) % E.left <= m - s.left := by
           by_cases c : m - s.left < E.left
           . rw [Int.emod_eq_of_lt (by omega) c]; omega
           . omega
          have HE2 := Hd (show E.tick ((m - s.left) % E.left) = R by rw [<- HE.out]; exact (Tm.tick_mod hEo hE (HM.out hE) _ (by omega)).symm)
          rw [hx] at hm hm4 HE2 hEL
          obtain ⟨l0, l1, v0, v1, s0, s1, p0, p1⟩ := hEo
          have hq : (E.ld * (E.sc + 1) == 0) = false := by simp only [beq_eq_false_iff_ne, ne_eq]; omega
          clear HX HM HE hx
          go_wp2_with fail
          go_roundw
          case rel => exact ⟨(m - s.left) % (E.ld * (E.sc + 1)), E, rfl, hm.1, by omega, ⟨l0, l1, v0, v1, s0, s1, p0, p1⟩, X, Y, hB, HE2⟩
          case measure => simp [intOf]; omega
      . have hst := steps_bounds h.v0 h.s0 h.p0 m0 (show m < lft s.v s.sc s.ph by show m < s.left; omega)
        have hmb := mod_bounds (a := s.ph + m) (u := s.sc + 1) (by have := h.s0; omega)
        have HV := HR.out
        rw [Tm.tick_lt hen (by omega)] at HV
        have X := X1
        have Y := Y1
        have hB := hB1
        clear X1 Y1 hB1 HR LF
        have hX := X.lt
        have x1 := X.c1
        have x2 := X.c2
        rw [hen] at x2
        have x5 := X.c5
        have x6 := X.c6
        have f1 := X.free 1
        obtain ⟨l0, l1, v0, v1, s0, s1, p0, p1⟩ := h
        obtain ⟨q0, q1, q2⟩ := hst
        obtain ⟨V, hV⟩ : ∃ V, s.v - (s.ph + m) / (s.sc + 1) = V := ⟨_, rfl⟩
        obtain ⟨F, hF⟩ : ∃ F, (s.ph + m) % (s.sc + 1) = F := ⟨_, rfl⟩
        have HR := Hd (show ({ s with v := V, ph := F } : Tm) = R by rw [<- HV]; exact lat_eq s m V F hV hF)
        clear HV
        have hmm : m < 1099511627776 := by omega
        go_upto_region 11 with (fail)
        have hg := gcell
        have hf := gfrozen
        refine wp_region_tail_below 8 (by kernel_rfl) (by kernel_rfl) ?_
        simp only [List.take_succ_cons, List.take_zero, List.drop_succ_cons, List.drop_zero]
        repeat (go_big_quiet_step (fail))
        refine wpQuiet_nil ?_
        intro _ hw'
        obtain ⟨⟨dq, osq⟩, hw''⟩ := hw'
        subst hw''
        go_upto_region 12 with (fail)
        have hbr := below_regrown W1 dq osq
        have X1 : MAt _ _ { s with v := V } := (X.below hbr).s1 V
        have Y1 := (Y.below hbr).other w.heap.size 1 (.int .u32 V) (by omega)
        have hB1 := (tr hB hbr).setCell (p := ⟨w.heap.size, 1, none⟩) (by simp) (.int .u32 V)
        clear X Y hB x1 x2 x5 x6 f1 hg hf hbr hX
        generalize ((grow (redrawn W1 dq) osq).setCell ⟨w.heap.size, 1, none⟩ (.int .u32 V)) = W2 at *
        have x6 := X1.c6
        have f6 := X1.free 6
        simp only at x6
        clear hV q0 q1 q2
        go_upto_region 13 with (fail)
        have X2 : MAt _ _ { s with v := V, ph := F } := X1.s6 F
        have Y2 := Y1.other w.heap.size 6 (.int .u32 F) (by omega)
        have hB2 := hB1.setCell (p := ⟨w.heap.size, 6, none⟩) (by simp) (.int .u32 F)
        clear X1 Y1 hB1 x6 f6 hF
        generalize (W2.setCell ⟨w.heap.size, 6, none⟩ (.int .u32 F)) = W3 at *
        generalize ({ s with v := V, ph := F } : Tm) = r at *
        have Z := MAt.row Y2 r
        have hB3 := below_setRow hB2 (rl r).toArray (g := w.heap.size + 1) (by omega)
        go_wp2_with (first | (refine loadM rfl (.tmp 2) rfl rfl X2 ?_) | (refine storeM rfl (.tmp 4) (.tmp 71) rfl rfl (t := r) rfl Y2 ?_))
        refine bodyPost_ret (resM rfl _ _ rfl Z) rfl ⟨by rw [HR.out], hB3⟩
theorem gLoad {w : World} {g n cap : Nat} {t : Nat -> Tm} (h : RwAt w g n cap t) (ok : ∀ i, i < n -> (t i).ok) (n8 : n <= 8) (o : Int) (o0 : 0 <= o) (o1 : o < 4294967296) :
 Calls Tryz.prog 90 #[.slice (some ⟨g, 0, none⟩) n cap, .int .u32 o] w fun e w' => e = .returned (.tuple #[.int .u32 (kVal n t o), .int .i64 (kLErr n o)]) /\ Below w.heap.size w w' := by
 have hcm := h.cm
 have hnc := h.nc
 unfold maxLen at hcm
 unfold kVal kLErr
 by_cases hE : kErr n o = 0
 . rw [if_pos hE, if_pos hE]
   obtain ⟨h4, hn, hk⟩ := kErr_zero o0 hE
   have hin := h.at hk
   have C := Hd (fun w => mLoad (t (o / 32).toNat) (o % 32) w (ok _ hk) (by omega) (by omega))
   clear hE h ok
   generalize (t (o / 32).toNat).val (o % 32) = V at *
   generalize nErr (o % 32) = E at *
   go_enter Tryz.func90, Tryz.ntmps90
   go_wp2_with (refine loadR rfl (.tmp 19) rfl rfl hin ?_)
   refine (C.out _).mono ?_
   rintro e w1 ⟨rfl, hb⟩
   go_wp2_with fail
   go_ret2
   exact ⟨rfl, hb⟩
 . rw [if_neg hE, if_neg hE]
   clear h ok
   unfold kErr at hE ⊢
   cases h4 : (o % 4 != 0)
   . rw [h4, if_neg (by simp)] at hE
     by_cases hn : (n : Int) <= o / 32
     . clear hE
       go_enter Tryz.func90, Tryz.ntmps90
       go_wp2_with fail
       go_ret2
       exact ⟨by simp [hn], tr0 w⟩
     . rw [if_neg hn] at hE
       exact absurd rfl hE
   . clear hE
     go_enter Tryz.func90, Tryz.ntmps90
     go_wp2_with fail
     go_ret2
     exact ⟨rfl, tr0 w⟩
theorem kLErr_cases (n : Nat) (o : Int) : kLErr n o = 0 -> kErr n o = 0 /\ nErr (o % 32) = 0 := by
 unfold kLErr
 intro h
 by_cases hE : kErr n o = 0
 . rw [if_pos hE] at h; exact ⟨hE, h⟩
 . rw [if_neg hE] at h; exact absurd h hE
theorem kLErr_no (n : Nat) (o : Int) (h : kLErr n o ≠ 0) : kSErr n o = kLErr n o := by
 unfold kLErr at h ⊢
 unfold kSErr
 by_cases hE : kErr n o = 0
 . rw [if_pos hE] at h
   rw [if_pos hE, if_pos hE]
   unfold nSErr
   rw [if_neg h]
 . rw [if_neg hE, if_neg hE]
theorem upd1_same (t : Nat -> Tm) (k : Nat) (c : Prop) [Decidable c] (x : Tm) (i : Nat) : upd1 t k (if c then x else t k) i = (if c then upd1 t k x else t) i := by
 by_cases hs : c
 . rw [if_pos hs, if_pos hs]
 . rw [if_neg hs, if_neg hs]
   by_cases e : i = k
   . subst e; exact upd1_at _ _ _
   . exact upd1_ne _ _ e
set_option maxRecDepth 100000 in
set_option maxHeartbeats 1600000 in
theorem gStore {w : World} {g n cap : Nat} {t : Nat -> Tm} (h : RwAt w g n cap t) (ok : ∀ i, i < n -> (t i).ok) (n0 : 1 <= n) (n8 : n <= 8) (o x : Int) (o0 : 0 <= o) (o1 : o < 4294967296) (x0 : 0 <= x) (x1 : x < 4294967296) :
 Calls Tryz.prog 96 #[.slice (some ⟨g, 0, none⟩) n cap, .int .u32 o, .int .u32 x] w fun e w' => ∃ g' cap', e = .returned (.tuple #[.slice (some ⟨g', 0, none⟩) n cap', .int .i64 (kSErr n o)]) /\ RwAt w' g' n cap' (kSto n t o x) /\ Below w.heap.size w w' /\ (g' = g \/ w.heap.size <= g') := by
 have hcm := h.cm
 have hnc := h.nc
 unfold maxLen at hcm
 have L := gLoad h ok n8 o o0 o1
 by_cases hE : kLErr n o = 0
 . obtain ⟨hk0, hn0⟩ := kLErr_cases n o hE
   obtain ⟨h4, hn, hk⟩ := kErr_zero o0 hk0
   rw [hE] at L
   have hS : kSErr n o = nSErr (o % 32) := by unfold kSErr; rw [if_pos hk0]
   unfold kSto
   rw [hS]
   have C := Hd (fun w => mStore (t (o / 32).toNat) (o % 32) x w (ok _ hk) (by omega) (by omega) x0 x1)
   generalize kVal n t o = V0 at *
   have HW := Hd h
   have OK := Hd ok
   have hcg : ∀ i, i < n -> upd1 t (o / 32).toNat (if nSErr (o % 32) = 0 then (t (o / 32).toNat).sto (o % 32) x else t (o / 32).toNat) i = (if nSErr (o % 32) = 0 then upd1 t (o / 32).toNat ((t (o / 32).toNat).sto (o % 32) x) else t) i := fun i _ => upd1_same t _ _ _ i
   have HC := Hd hcg
   clear hE hk0 hn0 h4 hS h ok hcg
   generalize (if nSErr (o % 32) = 0 then (t (o / 32).toNat).sto (o % 32) x else t (o / 32).toNat) = s at *
   generalize (if nSErr (o % 32) = 0 then upd1 t (o / 32).toNat ((t (o / 32).toNat).sto (o % 32) x) else t) = T at *
   generalize nSErr (o % 32) = E at *
   go_enter Tryz.func96, Tryz.ntmps96
   go_wp2_with fail
   refine L.mono ?_
   rintro e w1 ⟨rfl, hb⟩
   have H := HW.out.below hb
   have hin := H.at hk
   have hB := hb
   clear HW hb L
   go_wp2_with (refine loadR rfl (.tmp 26) rfl rfl hin ?_)
   refine (C.out _).mono ?_
   rintro e w2 ⟨rfl, hb⟩
   have H2 := H.below hb
   have B2 := tr hB hb
   clear C H hB hb hin
   have Z : MAt (w2.alloc zM) w2.heap.size tz := blk_new w2 zM
   have B3 := below_setRow (trA B2 zM) (rl s).toArray B2.size
   have H3 := H2.below (below_setRow (trA (tr0 w2) zM) (rl s).toArray (Nat.le_refl _))
   have Y := MAt.row Z s
   have hsz : w.heap.size <= w2.heap.size := B2.size
   clear H2
   go_upto_region 5 with (refine storeM rfl (.tmp 10) (.tmp 32) rfl rfl rfl Z ?_)
   rw [zM_eq]
   clear Z B2
   generalize ((w2.alloc zM).setRow w2.heap.size (rl s).toArray) = W at *
   generalize w2.heap.size = y at *
   have OO := World.ownsRow_made (base := w.heap.size) (e := 171) (size := 8) W #[] 0 B3.size (by decide) rfl
   have H4 := H3.below (trA (tr0 W) (.cells #[] 171 (0, 0)))
   have Y4 := Y.below (trA (tr0 W) (.cells #[] 171 (0, 0)))
   have B4 := trA B3 (.cells #[] 171 (0, 0))
   have hWs := B3.size
   have hyW := Y.lt
   have hB4s := B4.size
   clear H3 Y B3
   go_upto_region 6 with (refine appendAllR rfl (.tmp 34) (.tmp 35) rfl (v := .slice (some ⟨W.heap.size, 0, none⟩) 0 0) rfl OO rfl H4 n8 hB4s ?_; intro v' W5 O5 ho5)
   have ho6 : Off (· = W.heap.size) (W.alloc (.cells #[] 171 (0, 0))) W5 := ho5.mono fun k _ e => (Option.some.inj e).symm
   have Y5 := Y4.off ho6 (fun e => by omega)
   have B5 := Off.toBelow B4 ho6 (fun b hb e => by omega) (Nat.le_refl _)
   obtain ⟨g', cap', rfl, hg', R5⟩ := O5.rw (by omega)
   have hcm' := R5.cm
   have hnc' := R5.nc
   unfold maxLen at hcm'
   clear OO H4 Y4 B4 hWs hyW hB4s ho5 ho6 O5
   go_upto_region 7 with (first
    | (refine loadM rfl (.tmp 10) rfl rfl Y5 ?_)
    | (refine storeR rfl (.tmp 41) (.tmp 40) rfl rfl rfl R5 hk ?_; intro W6 R6 ho6))
   have B6 := Off.toBelow B5 ho6 (fun b hb e => by omega) (Nat.le_refl _)
   have R7 := R6.congr HC.out
   clear R5 Y5 B5 ho6 R6
   go_wp2_with fail
   go_ret2
   exact ⟨g', cap', rfl, R7, B6, .inr hg'⟩
 . have hS := kLErr_no n o hE
   have hT : kSto n t o x = t := by unfold kSto; rw [hS, if_neg hE]
   rw [hS, hT]
   have hne : (kLErr n o == 0) = false := by simpa using hE
   have hn2 : (kLErr n o != 0) = true := by simpa using hE
   generalize kLErr n o = E at *
   generalize kVal n t o = V0 at *
   have H := Hd h
   clear h hE ok hS hT
   go_enter Tryz.func96, Tryz.ntmps96
   go_wp2_with fail
   refine L.mono ?_
   rintro e w1 ⟨rfl, hb⟩
   go_wp2_with fail
   go_ret2
   exact ⟨g, cap, rfl, H.out.below hb, hb, .inl rfl⟩
def zR (n : Nat) : Obj := .cells (madeCells (Value.agg (rl tz).toArray).cells (n * 8)) tM (0, 0)
theorem mkRun (n : Nat) (n8 : n <= 8) (w : World) : (Instr.makeSlice 37 (.int .i64 n) (.int .i64 n)).run Tryz.prog w = .ok (.slice (some ⟨w.heap.size, 0, none⟩) n n) (w.alloc (zR n)) := by
 obtain ⟨i0, hi, hz0, hz1, hz2⟩ := info_parts infoM
 have hr := run_make (P := Tryz.prog) w 37 171 i0 _ Tryz.underlying37 hi hz0 .i64 .i64 n n (by omega) (Int.le_refl _) (by rw [hz2]; omega) (by omega)
 rw [hz1] at hr
 simpa [zR] using hr
theorem rwMade (n : Nat) (n8 : n <= 8) (w : World) : RwAt (w.alloc (zR n)) w.heap.size n n (fun _ => tz) := by
 refine ⟨⟨_, blk_new w (zR n), by rw [size_madeCells], fun i hi j u hu => ?_⟩, Nat.le_refl _, by unfold maxLen; omega⟩
 have hj : j < 8 := by have := (List.getElem?_eq_some_iff.1 hu).1; rw [rl_len] at this; exact this
 have hlt : i * 8 + j < n * 8 := by omega
 have hc : (Value.agg (rl tz).toArray).cells = (rl tz).toArray := rfl
 have hs : (rl tz).toArray.size = 8 := rfl
 unfold madeCells
 rw [hc, hs]
 simp only [Array.getElem?_map]
 rw [show (Array.range (n * 8))[i * 8 + j]? = some (i * 8 + j) by simp [hlt]]
 simp only [Option.map_some]
 rw [show (i * 8 + j) % 8 = j by omega]
 have h2 : (rl tz).toArray[j]? = some u := by simpa using hu
 simp [getElem!_def, h2]
theorem vLeft (t : Wd) (w : World) (h : t.ok) : Calls Tryz.prog 112 #[.agg (vl t).toArray] w fun e w' => e = .returned (.int .u64 t.left) /\ Below w.heap.size w w' := by
 have hB := trA (tr0 w) (oV t)
 have X : VAt (w.alloc (oV t)) w.heap.size t := blk_new w (oV t)
 have hrun := h.run
 obtain ⟨c0, c1, t0, t1, s0, s1, _, win, fa, idle⟩ := h
 have x0 := X.c0
 have x4 := X.c4
 have x5 := X.c5
 have x6 := X.c6
 cases hen : t.en
 . rw [hen] at x0
   clear hrun win fa idle
   go_enter Tryz.func112, Tryz.ntmps112
   go_upto_region 1 with (fail)
   rw [oV_eq]
   generalize w.alloc (oV t) = W at *
   go_wp2_with fail
   go_ret
   exact ⟨ret_int (by unfold Wd.left; rw [if_neg (by rw [hen]; simp)]), hB⟩
 . rw [hen] at x0
   have hr := hrun hen
   by_cases hf : t.fa = 0
   . have q0 : (t.fa != 0) = false := by simp [hf]
     have hlt := hr hf
     clear hrun win fa idle hr
     go_enter Tryz.func112, Tryz.ntmps112
     go_upto_region 1 with (fail)
     rw [oV_eq]
     generalize w.alloc (oV t) = W at *
     go_wp2_with fail
     go_ret
     exact ⟨ret_int (by unfold Wd.left; rw [if_pos ⟨hen, hf⟩]), hB⟩
   . have q0 : (t.fa != 0) = true := by simp [hf]
     clear hrun win fa idle hr
     go_enter Tryz.func112, Tryz.ntmps112
     go_upto_region 1 with (fail)
     rw [oV_eq]
     generalize w.alloc (oV t) = W at *
     go_wp2_with fail
     go_ret
     exact ⟨ret_int (by unfold Wd.left; rw [if_neg (fun e => hf e.2)]), hB⟩
theorem wrap64_over (x : Int) (h0 : 18446744073709551616 <= x) (h1 : x < 36893488147419103232) : IntKind.u64.wrap x = x - 18446744073709551616 := by
 simp [IntKind.wrap, IntKind.bits, IntKind.signed]; omega
set_option maxHeartbeats 1600000 in
theorem vTick (t : Wd) (n : Int) (w : World) (h : t.ok) (n0 : 0 <= n) (n1 : n < 18446744073709551616) :
 Calls Tryz.prog 83 #[.agg (vl t).toArray, .int .u64 n] w fun e w' => e = .returned (.tuple #[.agg (vl (t.tick n)).toArray, .int .u64 (t.ran n)]) /\ Below w.heap.size w w' := by
 have hB := trA (trA (tr0 w) (oV t)) zV
 have X : VAt ((w.alloc (oV t)).alloc zV) w.heap.size t := b2_0 w (oV t) zV
 have Y : VAt ((w.alloc (oV t)).alloc zV) (w.heap.size + 1) wz := b2_1 w (oV t) zV
 have HL := Hd (fun w' => vLeft t w' h)
 have hrun := h.run
 obtain ⟨c0, c1, t0, t1, s0, s1, _, win, fa, idle⟩ := h
 have x0 := X.c0
 have x6 := X.c6
 clear win fa idle
 by_cases hf : t.fa = 0
 . have q0 : (t.fa != 0) = false := by simp [hf]
   cases hen : t.en
   . rw [hen] at x0
     have e1 : t.tick n = t := by unfold Wd.tick; rw [if_neg (by rw [hen]; simp)]
     have e2 : t.ran n = n := by unfold Wd.ran; rw [if_neg (by simp [hf]), if_neg (by rw [hen]; simp)]
     rw [e1, e2]
     clear hrun HL e1 e2
     go_enter Tryz.func83, Tryz.ntmps83
     go_upto_region 1 with (fail)
     rw [oV_eq, zV_eq]
     generalize ((w.alloc (oV t)).alloc zV) = W at *
     have Z := VAt.row Y t
     have hB2 := below_setRow hB (vl t).toArray (g := w.heap.size + 1) (by omega)
     go_wp2_with (first | (refine loadV rfl (.tmp 2) rfl rfl X ?_) | (refine storeV rfl (.tmp 4) (.tmp 14) rfl rfl (t := t) rfl Y ?_))
     refine bodyPost_ret (resV2 rfl _ _ _ rfl rfl Z) rfl ⟨rfl, hB2⟩
   . rw [hen] at x0
     have hlt := hrun hen hf
     have hleft : t.left = t.tot - t.si := by unfold Wd.left; rw [if_pos ⟨hen, hf⟩]
     rw [hleft] at HL
     have x4 := X.c4
     have x5 := X.c5
     have f5 := X.free 5
     have f6 := X.free 6
     clear hrun hleft
     by_cases hge : t.tot <= t.si + n
     . have e1 : t.tick n = { t with si := t.tot, fa := 2 } := by unfold Wd.tick; rw [if_pos ⟨hen, hf⟩, if_pos hge]
       have e2 : t.ran n = t.tot - t.si := by unfold Wd.ran; rw [if_neg (by simp [hf]), if_pos hen, if_pos hge]
       rw [e1, e2]
       clear e1 e2 hen hf
       by_cases hov : t.si + n < 18446744073709551616
       all_goals
        try have hw := wrap64_over (t.si + n) (by omega) (by omega)
        try have hw2 : t.si + n - 18446744073709551616 < n := by omega
        try have hw3 : ¬ t.tot <= t.si + n - 18446744073709551616 := by omega
        go_enter Tryz.func83, Tryz.ntmps83
        go_upto_region 1 with (fail)
        rw [oV_eq, zV_eq]
        generalize ((w.alloc (oV t)).alloc zV) = W at *
        go_wp2_with (refine loadV rfl (.tmp 2) rfl rfl X ?_)
        refine (HL.out _).mono ?_
        rintro e W1 ⟨rfl, hb⟩
        have X1 := X.below hb
        have Y1 := Y.below hb
        have hB1 := tr hB hb
        clear X Y hB hb HL x0 x4 x5 x6 f5 f6
        have x4 := X1.c4
        have x5 := X1.c5
        have x6 := X1.c6
        have f5 := X1.free 5
        have f6 := X1.free 6
        have X2 : VAt _ _ { t with si := t.tot, fa := 2 } := (X1.s5 t.tot).s6 2
        have Y2 := (Y1.other w.heap.size 5 (.int .u64 t.tot) (by omega)).other w.heap.size 6 (.int .i64 2) (by omega)
        have hB2 := (hB1.setCell (p := ⟨w.heap.size, 5, none⟩) (by simp) (.int .u64 t.tot)).setCell (p := ⟨w.heap.size, 6, none⟩) (by simp) (.int .i64 2)
        clear X1 Y1 hB1
        go_upto_region 8 with (fail)
        generalize ((W1.setCell ⟨w.heap.size, 5, none⟩ (.int .u64 t.tot)).setCell ⟨w.heap.size, 6, none⟩ (.int .i64 2)) = W2 at *
        have Z := VAt.row Y2 { t with si := t.tot, fa := 2 }
        have hB3 := below_setRow hB2 (vl { t with si := t.tot, fa := 2 }).toArray (g := w.heap.size + 1) (by omega)
        clear x4 x5 x6 f5 f6
        go_wp2_with (first | (refine loadV rfl (.tmp 2) rfl rfl X2 ?_) | (refine storeV rfl (.tmp 4) (.tmp 39) rfl rfl (t := { t with si := t.tot, fa := 2 }) rfl Y2 ?_))
        refine bodyPost_ret (resV2 rfl _ _ _ rfl rfl Z) rfl ⟨rfl, hB3⟩
     . have e1 : t.tick n = { t with si := t.si + n } := by unfold Wd.tick; rw [if_pos ⟨hen, hf⟩, if_neg hge]
       have e2 : t.ran n = n := by unfold Wd.ran; rw [if_neg (by simp [hf]), if_pos hen, if_neg hge]
       rw [e1, e2]
       have hov : t.si + n < 18446744073709551616 := by omega
       have hn : ¬ t.si + n < n := by omega
       clear e1 e2 hen hf HL
       go_enter Tryz.func83, Tryz.ntmps83
       go_upto_region 1 with (fail)
       rw [oV_eq, zV_eq]
       generalize ((w.alloc (oV t)).alloc zV) = W at *
       have X2 : VAt _ _ { t with si := t.si + n } := X.s5 (t.si + n)
       have Y2 := Y.other w.heap.size 5 (.int .u64 (t.si + n)) (by omega)
       have hB2 := hB.setCell (p := ⟨w.heap.size, 5, none⟩) (by simp) (.int .u64 (t.si + n))
       clear X Y hB
       go_upto_region 10 with (fail)
       generalize (W.setCell ⟨w.heap.size, 5, none⟩ (.int .u64 (t.si + n))) = W2 at *
       have Z := VAt.row Y2 { t with si := t.si + n }
       have hB3 := below_setRow hB2 (vl { t with si := t.si + n }).toArray (g := w.heap.size + 1) (by omega)
       clear x0 x4 x5 x6 f5 f6
       go_wp2_with (first | (refine loadV rfl (.tmp 2) rfl rfl X2 ?_) | (refine storeV rfl (.tmp 4) (.tmp 46) rfl rfl (t := { t with si := t.si + n }) rfl Y2 ?_))
       refine bodyPost_ret (resV2 rfl _ _ _ rfl rfl Z) rfl ⟨rfl, hB3⟩
 . have q0 : (t.fa != 0) = true := by simp [hf]
   have e1 : t.tick n = t := by unfold Wd.tick; rw [if_neg (fun e => hf e.2)]
   have e2 : t.ran n = 0 := by unfold Wd.ran; rw [if_pos hf]
   rw [e1, e2]
   clear hrun HL e1 e2
   go_enter Tryz.func83, Tryz.ntmps83
   go_upto_region 1 with (fail)
   rw [oV_eq, zV_eq]
   generalize ((w.alloc (oV t)).alloc zV) = W at *
   have Z := VAt.row Y t
   have hB2 := below_setRow hB (vl t).toArray (g := w.heap.size + 1) (by omega)
   go_wp2_with (first | (refine loadV rfl (.tmp 2) rfl rfl X ?_) | (refine storeV rfl (.tmp 4) (.tmp 10) rfl rfl (t := t) rfl Y ?_))
   refine bodyPost_ret (resV2 rfl _ _ _ rfl rfl Z) rfl ⟨rfl, hB2⟩
end Go.Proofs.YtcgmnjajodegmaaGreat.B
