/- The law RtcLeft: behind Left ticks the alarm is met, ahead of that it isn't. (Written by tools/gen_l10d.py.) -/
import Derived.Test.YteaanlemmhnpgaaL10D
import Derived.Test.YteaanlemmhnpgaaMix
import Derived.Deep.Cut
namespace Go.Proofs.Yteaanlemmhnpgaa.B
set_option linter.unusedVariables false
set_option linter.unusedSimpArgs false
open Go.ChangeShapes Go.WideShapes Go.RowKit Go.Sort Go.MapKept
theorem sto28 {t : Rk} : t.sto 28 1 = { t with st := false } := by
  have h : t.wr 28 1 = { t with st := false } := by show { t with st := t.st && !((1 : Int) % 2 == 1) } = _; simp
  unfold Rk.sto
  rw [if_pos (by simp), h]
  unfold Rk.behind
  rw [show ({ t with st := false } : Rk).met = t.met from rfl]
  cases t.met <;> rfl
theorem met_stays {t : Rk} (h : t.ok) (hm : t.met = true) {a : Int} (a0 : 0 ≤ a) : ((t.sto 28 1).tick a).st = false := by
  rw [sto28]
  have hb : Rk.behind { t with st := false } (Rk.adv { t with st := false } a) = Rk.adv { t with st := false } a := by
    unfold Rk.behind
    rw [show ({ t with st := false } : Rk).met = t.met from rfl, hm]; simp
  show (Rk.behind { t with st := false } (Rk.adv { t with st := false } a)).st = false
  rw [hb]; rfl
/-- Ahead of the alarm, and at it. -/
theorem left_steps {t : Rk} (h : t.ok) (hm : t.met = false) (hl : t.left < nev) :
    ((t.sto 28 1).tick (t.left - 1)).met = false ∧ ((t.sto 28 1).tick (t.left - 1)).st = false ∧ ((t.sto 28 1).tick (t.left - 1)).left = 1 ∧ (((t.sto 28 1).tick (t.left - 1)).tick 1).met = true ∧ (((t.sto 28 1).tick (t.left - 1)).tick 1).st = true := by
  rw [sto28]
  obtain ⟨s, hs⟩ : ∃ s : Rk, s = { t with st := false } := ⟨_, rfl⟩
  have so : s.ok := by rw [hs]; exact ⟨h.d0, h.d1, h.r0, h.r1, h.w0, h.w1, h.s0, h.s1, h.l0, h.l1, h.h0, h.h1⟩
  have sm : s.met = false := by rw [hs]; exact hm
  have sl : t.left = s.left := by rw [hs]; rfl
  have ss : s.st = false := by rw [hs]
  rw [← hs, sl]
  rw [sl] at hl
  clear hs sl hm h
  have m3 := ahead_met so sm hl
  have l3 := ahead_left so sm hl
  have m4 := behind_met so sm hl
  have hb : s.tick (s.left - 1) = s.adv (s.left - 1) := by
    unfold Rk.tick Rk.behind
    rw [m3]; rfl
  rw [hb]
  have h4 : (s.adv (s.left - 1)).tick 1 = { (s.adv (s.left - 1)).adv 1 with st := true } := by
    unfold Rk.tick Rk.behind
    rw [m3, m4]; rfl
  rw [h4]
  exact ⟨m3, ss, l3, m4, rfl⟩
set_option maxRecDepth 100000 in
set_option maxHeartbeats 12800000 in
theorem rtcLeft1 (w : World) (d : Int) (d0 : 1 ≤ d) (d1 : d < 4294967296) (a b : Int) (a0 : 0 ≤ a) (a1 : a < 18446744073709551616) (b0 : 0 ≤ b) (b1 : b < 18446744073709551616) (y : Option Addr) (len cap : Nat) (hy : len = 0 ∨ ∃ b off, y = some ⟨b, off, none⟩ ∧ len ≤ cap ∧ cap ≤ maxLen ∧ b < w.heap.size ∧ ∀ i, i < cap → ∃ K n o v : Int, w.cell? ⟨b, off + i * 4, none⟩ = some (.int .i64 K) ∧ w.cell? ⟨b, off + i * 4 + 1, none⟩ = some (.int .u64 n) ∧ w.cell? ⟨b, off + i * 4 + 2, none⟩ = some (.int .u32 o) ∧ w.cell? ⟨b, off + i * 4 + 3, none⟩ = some (.int .u32 v) ∧
      (-9223372036854775808 ≤ K ∧ K < 9223372036854775808) ∧ (0 ≤ n ∧ n < 18446744073709551616) ∧ (0 ≤ o ∧ o < 4294967296) ∧ (0 ≤ v ∧ v < 4294967296)) :
    Calls Try.prog 4 #[.int .u32 d, .slice y len cap, .int .u64 a, .int .u64 b] w fun e w' => e = .returned (.bool true) ∧ Below w.heap.size w w' := by
  have HY := Lib.hid hy
  clear hy
  go_enter Try.func4, Try.ntmps4
  go_wp2_with fail
  refine (eNew d w d0 d1).mono ?_
  rintro e w1 ⟨rfl, rfl⟩
  have A0 := ea_new w tRtc (rk0 d)
  have bb0 := trA (tr0 w) (oE tRtc (rk0 d))
  have hs0 : (w.alloc (oE tRtc (rk0 d))).heap.size = w.heap.size + 1 := by simp
  generalize w.alloc (oE tRtc (rk0 d)) = W0 at *
  have M2 : KAt (W0.alloc (oK (rk0 d))) W0.heap.size (rk0 d) := blk_new W0 _
  have A2 := A0.below (trA (tr0 W0) (oK (rk0 d)))
  have bb2 := trA bb0 (oK (rk0 d))
  rw [hs0] at M2
  go_upto_region 6 with (fail)
  rw [show Obj.cells #[.int .u32 d, .int .u32 0, .int .u32 0, .int .u64 0, .int .u32 0, .int .u32 0, .bool false, .bool false] 31 (0, 0) = oK (rk0 d) from rfl]
  clear A0 bb0 hs0
  generalize W0.alloc (oK (rk0 d)) = W at *
  have T0 := rk0_ok d0 d1
  generalize rk0 d = t0 at *
  go_wp2_with fail
  go_loopw [9, 12] (fun l i wr => ∃ (k p : Nat) (t : Rk), k ≤ len ∧ k ≤ 30 ∧ i = .int .i64 k ∧ l = .pointer (some ⟨p, 0, none⟩) ∧ t.ok ∧ EAt wr p tRtc t ∧ KAt wr (w.heap.size + 1) t ∧ Below w.heap.size w wr ∧ w.heap.size ≤ p) (fun l i wr => len - (intOf i).toNat)
  case atStart => exact ⟨0, w.heap.size, t0, by omega, by omega, rfl, rfl, T0, A2, M2, bb2, Nat.le_refl _⟩
  case round =>
    clear A2 M2 bb2 T0
    obtain ⟨k, p, t, hk, hkl, rfl, rfl, ht, A, M, hB, hp⟩ := hrel
    by_cases hlt : k < len ∧ k < 30
    · obtain ⟨hlt, hlm⟩ := hlt
      rcases HY.out with hy | ⟨z, off, rfl, hlc, hcm, hbl, hz⟩
      · omega
      unfold maxLen at hcm
      obtain ⟨K, n, o, v, c0, c1, c2, c3, ⟨k0, k1⟩, ⟨n0, n1⟩, ⟨o0, o1⟩, ⟨v0, v1⟩⟩ := hz k (by omega)
      rw [← hB.cell (p := ⟨z, _, none⟩) (by simpa using hbl)] at c0 c1 c2 c3
      clear hz
      have hbw : z < wr.heap.size := by have := hB.size; omega
      have hg := gcell
      have hpm : p ≠ w.heap.size + 1 := apart_types A M rfl
      go_wp2_with fail
      refine wp_region_mix_below 6 (by kernel_rfl) (by kernel_rfl) (by intro _ _ d _ _ h; cases d <;> exact h) ?_
      simp only [List.take_succ_cons, List.take_zero, List.drop_succ_cons, List.drop_zero]
      repeat (first
        | go_big_quiet_skip
        | (go_big_quiet_want; first
            | (refine qloadK (.tmp 11) rfl rfl M.grown ?_; go_simp; go_big_quiet_on)
            | (go_big_quiet_op; first | go_big_quiet_on)))
      refine wpQuiet_nil ?_
      intro _ hw'
      obtain ⟨⟨dq, osq⟩, hw''⟩ := hw'
      subst hw''
      have hbr := below_regrown wr dq osq
      have A1 := A.below hbr
      have M1 := M.below hbr
      have B1 := tr hB hbr
      clear A M hB hbr c0 c1 c2 c3 hg hbw
      dsimp only at A1 M1 B1 ⊢
      generalize grow (redrawn wr dq) osq = W1 at *
      go_wp2_with fail
      refine (eDo t K n o v p _ ht A1 n0 n1 o0 o1 v0 v1).mono ?_
      rintro e W2 ⟨p', t', rfl, ht', A2, hpp, ho⟩
      have M2 := M1.off ho (fun e => hpm e.symm)
      have B2 := off_below B1 ho hp (Nat.le_refl _)
      have hp' : w.heap.size ≤ p' := by have := B1.size; omega
      have A3 := A2.elseRow (w.heap.size + 1) (kl t').toArray (apart_types A2 M2 rfl)
      have M3 := KAt.row M2 t'
      have B3 := below_setRow B2 (kl t').toArray (g := w.heap.size + 1) (by omega)
      clear A1 M1 B1 ho hpp hpm
      go_wp2_with (refine storeK rfl (.tmp 11) (.tmp 50) rfl rfl rfl M2 ?_)
      clear A2 M2 B2
      generalize W2.setRow (w.heap.size + 1) (kl t').toArray = W3 at *
      go_roundw
      case rel => exact ⟨k + 1, p', t', by omega, by omega, by go_num, rfl, ht', A3, M3, B3, hp'⟩
      case measure => simp [intOf]; omega
    · clear M
      have fin : (k < len ∧ ¬ k < 30) ∨ ¬ k < len := by omega
      clear hlt hk hkl
      have ha : 0 ≤ a % 4611686018427387904 ∧ a % 4611686018427387904 < 4611686018427387904 := by omega
      have hb : 0 ≤ b % 4611686018427387904 ∧ b % 4611686018427387904 < 4611686018427387904 := by omega
      rcases fin with ⟨f1, f2⟩ | f1
      all_goals
        go_wp2_with fail
        refine (eCopy t p _ A).mono ?_
        rintro e W1 ⟨rfl, Q1, hbl⟩
        have hpq : p ≠ wr.heap.size := by have := A.lt; omega
        have hq0 : w.heap.size ≤ wr.heap.size := hB.size
        have A1 := A.below hbl
        have B1 := tr hB hbl
        clear A hB hbl
        generalize wr.heap.size = q at *
        go_wp2_with fail
        refine (eCopy t p _ A1).mono ?_
        rintro e W2 ⟨rfl, R1, hbl⟩
        have hpr : p ≠ W1.heap.size := by have := A1.lt; omega
        have hqr : q ≠ W1.heap.size := by have := Q1.lt; omega
        have hr0 : w.heap.size ≤ W1.heap.size := B1.size
        have A := A1.below hbl
        have Q := Q1.below hbl
        have hB := tr B1 hbl
        clear A1 Q1 B1 hbl
        generalize W1.heap.size = r at *
        go_upto_region 16 with (fail)
        generalize a % 4611686018427387904 = a' at *
        generalize b % 4611686018427387904 = b' at *
        have hto : (t.tick a').ok := Rk.tick_ok ht ha.1
        have htt := tick_tick ht ha.1 hb.1
        have T1 := Lib.hid (fun w x => eTick t a' q w ht x (by omega) (by omega))
        have T2 := Lib.hid (fun w x => by have := eTick (t.tick a') b' q w hto x (by omega) (by omega); rw [htt] at this; exact this)
        have hso : (t.tick (a' + b')).ok := Rk.tick_ok ht (by omega)
        have T3 := Lib.hid (fun w x => eTick t (a' + b') r w ht x (by omega) (by omega))
        clear htt hto
        generalize t.tick a' = s1 at *
        generalize t.tick (a' + b') = s at *
        have zS : (s.sec != s.sec) = false := by simp
        have zR : (s.rest != s.rest) = false := by simp
        have zL : (s.st != s.st) = false := by simp
        obtain ⟨SL, hSL⟩ : ∃ SL, s.left = SL := ⟨_, rfl⟩
        have LF := Lib.hid (fun w p a => by have := eLeft s p w hso a; rw [hSL] at this; exact this)
        have zN : (SL != SL) = false := by simp
        clear hSL hso
        go_wp2_with fail
        refine (T1.out _ Q).mono ?_
        rintro e w102 ⟨rfl, a101, ho⟩
        have a103 := A.off ho (hpq)
        have a104 := R1.off ho (fun e => hqr e.symm)
        have b105 := off_below hB ho hq0 (Nat.le_refl _)
        clear ho A R1 Q hB
        go_wp2_with fail
        refine (T2.out _ a101).mono ?_
        rintro e w107 ⟨rfl, a106, ho⟩
        have a108 := a103.off ho (hpq)
        have a109 := a104.off ho (fun e => hqr e.symm)
        have b110 := off_below b105 ho hq0 (Nat.le_refl _)
        clear ho a103 a104 a101 b105
        go_wp2_with fail
        refine (T3.out _ a109).mono ?_
        rintro e w112 ⟨rfl, a111, ho⟩
        have a113 := a108.off ho (hpr)
        have a114 := a106.off ho (hqr)
        have b115 := off_below b110 ho hr0 (Nat.le_refl _)
        clear ho a108 a106 a109 b110
        go_wp2_with fail
        refine (eSeconds s q _ a114).mono ?_
        rintro e w117 ⟨rfl, hb⟩
        have a118 := a113.below hb
        have a119 := a114.below hb
        have a120 := a111.below hb
        have b121 := tr b115 hb
        clear hb a113 a114 a111 b115
        go_wp2_with fail
        refine (eSeconds s r _ a120).mono ?_
        rintro e w123 ⟨rfl, hb⟩
        have a124 := a118.below hb
        have a125 := a119.below hb
        have a126 := a120.below hb
        have b127 := tr b121 hb
        clear hb a118 a119 a120 b121
        go_wp2_with fail
        refine (eRest s q _ a125).mono ?_
        rintro e w129 ⟨rfl, hb⟩
        have a130 := a124.below hb
        have a131 := a125.below hb
        have a132 := a126.below hb
        have b133 := tr b127 hb
        clear hb a124 a125 a126 b127
        go_wp2_with fail
        refine (eRest s r _ a132).mono ?_
        rintro e w135 ⟨rfl, hb⟩
        have a136 := a130.below hb
        have a137 := a131.below hb
        have a138 := a132.below hb
        have b139 := tr b133 hb
        clear hb a130 a131 a132 b133
        go_wp2_with fail
        refine (eLine s q _ a137).mono ?_
        rintro e w141 ⟨rfl, hb⟩
        have a142 := a136.below hb
        have a143 := a137.below hb
        have a144 := a138.below hb
        have b145 := tr b139 hb
        clear hb a136 a137 a138 b139
        go_wp2_with fail
        refine (eLine s r _ a144).mono ?_
        rintro e w147 ⟨rfl, hb⟩
        have a148 := a142.below hb
        have a149 := a143.below hb
        have a150 := a144.below hb
        have b151 := tr b145 hb
        clear hb a142 a143 a144 b145
        go_wp2_with fail
        refine (LF.out _ q a149).mono ?_
        rintro e w153 ⟨rfl, hb⟩
        have a154 := a148.below hb
        have a155 := a149.below hb
        have a156 := a150.below hb
        have b157 := tr b151 hb
        clear hb a148 a149 a150 b151
        go_wp2_with fail
        refine (LF.out _ r a156).mono ?_
        rintro e w159 ⟨rfl, hb⟩
        have a160 := a154.below hb
        have a161 := a155.below hb
        have a162 := a156.below hb
        have b163 := tr b157 hb
        clear hb a154 a155 a156 b157
        clear a161 a162 zS zR zL zN LF T1 T2 T3 hpq hpr hqr
        have LT := Lib.hid (fun w a => eLeft t p w ht a)
        have ME := Lib.hid (fun w a => eMetC t p w ht a)
        have ST := Lib.hid (fun w a => by have := eStore t 28 1 p w ht a (by omega) (by omega) (by omega) (by omega); rw [show wErrT 28 = 0 from rfl] at this; exact this)
        have so : (t.sto 28 1).ok := Rk.sto_ok ht (by omega) (by omega)
        cases hm : t.met
        · by_cases hl : t.left = nev
          · rw [hl] at LT
            rw [hm] at ME
            unfold nev at LT
            clear ST so
            go_wp2_with fail
            refine (LT.out _ a160).mono ?_
            rintro e w165 ⟨rfl, hb⟩
            have a166 := a160.below hb
            have b167 := tr b163 hb
            clear hb a160 b163
            go_wp2_with fail
            refine (ME.out _ a166).mono ?_
            rintro e w169 ⟨rfl, hb⟩
            have a170 := a166.below hb
            have b171 := tr b167 hb
            clear hb a166 b167
            go_wp2_with fail
            skip
            refine (eKnown _).mono ?_
            rintro e w173 ⟨rfl, hb⟩
            have a174 := a170.below hb
            have b175 := tr b171 hb
            clear hb a170 b171
            go_wp2_with fail
            go_ret
            exact ⟨rfl, b175⟩
          · have hlt : t.left < nev := by unfold nev at hl ⊢; have := (Rk.left_bounds ht).2; omega
            obtain ⟨lm, ls, ll, km, ks⟩ := left_steps ht hm hlt
            obtain ⟨lb0, lb1⟩ := Rk.left_bounds ht
            rw [hm] at ME
            have TL := Lib.hid (fun w x => eTick (t.sto 28 1) (t.left - 1) p w so x (by omega) (by omega))
            have so3 : ((t.sto 28 1).tick (t.left - 1)).ok := Rk.tick_ok so (by omega)
            unfold nev at hl hlt
            generalize t.left = LL at *
            generalize (t.sto 28 1).tick (LL - 1) = t3 at *
            have T4 := Lib.hid (fun w x => eTick t3 1 p w so3 x (by omega) (by omega))
            have so4 : (t3.tick 1).ok := Rk.tick_ok so3 (by omega)
            generalize t3.tick 1 = t4 at *
            generalize t.sto 28 1 = t2 at *
            have M3 := Lib.hid (fun w x => by have := eMetC t3 p w so3 x; rw [lm] at this; exact this)
            have L3 := Lib.hid (fun w x => by have := eLine t3 p w x; rw [ls] at this; exact this)
            have F3 := Lib.hid (fun w x => by have := eLeft t3 p w so3 x; rw [ll] at this; exact this)
            have M4 := Lib.hid (fun w x => by have := eMetC t4 p w so4 x; rw [km] at this; exact this)
            have L4 := Lib.hid (fun w x => by have := eLine t4 p w x; rw [ks] at this; exact this)
            have n0 : (LL == 18446744073709551615) = false := by simp; omega
            have n1 : (LL == 0) = false := by simp; omega
            clear lm ls ll km ks so so3 so4 hl ht hm
            go_wp2_with fail
            refine (LT.out _ a160).mono ?_
            rintro e w165 ⟨rfl, hb⟩
            have a166 := a160.below hb
            have b167 := tr b163 hb
            clear hb a160 b163
            go_wp2_with fail
            refine (ME.out _ a166).mono ?_
            rintro e w169 ⟨rfl, hb⟩
            have a170 := a166.below hb
            have b171 := tr b167 hb
            clear hb a166 b167
            go_wp2_with fail
            refine (ST.out _ a170).mono ?_
            rintro e w173 ⟨rfl, a172, ho⟩
            have b174 := off_below b171 ho hp (Nat.le_refl _)
            clear ho a170 b171
            go_wp2_with fail
            refine (TL.out _ a172).mono ?_
            rintro e w176 ⟨rfl, a175, ho⟩
            have b177 := off_below b174 ho hp (Nat.le_refl _)
            clear ho a172 b174
            go_wp2_with fail
            refine (M3.out _ a175).mono ?_
            rintro e w179 ⟨rfl, hb⟩
            have a180 := a175.below hb
            have b181 := tr b177 hb
            clear hb a175 b177
            go_wp2_with fail
            refine (L3.out _ a180).mono ?_
            rintro e w183 ⟨rfl, hb⟩
            have a184 := a180.below hb
            have b185 := tr b181 hb
            clear hb a180 b181
            go_wp2_with fail
            refine (F3.out _ a184).mono ?_
            rintro e w187 ⟨rfl, hb⟩
            have a188 := a184.below hb
            have b189 := tr b185 hb
            clear hb a184 b185
            go_wp2_with fail
            refine (T4.out _ a188).mono ?_
            rintro e w191 ⟨rfl, a190, ho⟩
            have b192 := off_below b189 ho hp (Nat.le_refl _)
            clear ho a188 b189
            go_wp2_with fail
            refine (eKnown _).mono ?_
            rintro e w194 ⟨rfl, hb⟩
            have a195 := a190.below hb
            have b196 := tr b192 hb
            clear hb a190 b192
            go_wp2_with fail
            refine (M4.out _ a195).mono ?_
            rintro e w198 ⟨rfl, hb⟩
            have a199 := a195.below hb
            have b200 := tr b196 hb
            clear hb a195 b196
            go_wp2_with fail
            refine (L4.out _ a199).mono ?_
            rintro e w202 ⟨rfl, hb⟩
            have a203 := a199.below hb
            have b204 := tr b200 hb
            clear hb a199 b200
            go_wp2_with fail
            go_ret
            exact ⟨rfl, b204⟩
        · have hl : t.left = nev := left_off (Or.inr hm)
          rw [hl] at LT
          rw [hm] at ME
          unfold nev at LT
          have TM := Lib.hid (fun w x => eTick (t.sto 28 1) a' p w so x (by omega) (by omega))
          have hst := met_stays ht hm ha.1
          generalize (t.sto 28 1).tick a' = t3 at *
          generalize t.sto 28 1 = t2 at *
          go_wp2_with fail
          refine (LT.out _ a160).mono ?_
          rintro e w165 ⟨rfl, hb⟩
          have a166 := a160.below hb
          have b167 := tr b163 hb
          clear hb a160 b163
          go_wp2_with fail
          refine (ME.out _ a166).mono ?_
          rintro e w169 ⟨rfl, hb⟩
          have a170 := a166.below hb
          have b171 := tr b167 hb
          clear hb a166 b167
          go_wp2_with fail
          refine (ST.out _ a170).mono ?_
          rintro e w173 ⟨rfl, a172, ho⟩
          have b174 := off_below b171 ho hp (Nat.le_refl _)
          clear ho a170 b171
          go_wp2_with fail
          refine (TM.out _ a172).mono ?_
          rintro e w176 ⟨rfl, a175, ho⟩
          have b177 := off_below b174 ho hp (Nat.le_refl _)
          clear ho a172 b174
          go_wp2_with fail
          refine (eKnown _).mono ?_
          rintro e w179 ⟨rfl, hb⟩
          have a180 := a175.below hb
          have b181 := tr b177 hb
          clear hb a175 b177
          go_wp2_with fail
          refine (eLine t3 p _ a180).mono ?_
          rintro e w183 ⟨rfl, hb⟩
          have a184 := a180.below hb
          have b185 := tr b181 hb
          clear hb a180 b181
          rw [hst]
          go_wp2_with fail
          go_ret
          exact ⟨rfl, b185⟩
end Go.Proofs.Yteaanlemmhnpgaa.B
