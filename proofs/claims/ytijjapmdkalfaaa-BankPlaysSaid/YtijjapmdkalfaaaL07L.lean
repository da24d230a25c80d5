/- The law BankLeft: behind Left ticks that timer has expired, and none had ahead of it. -/
import Derived.Test.YtijjapmdkalfaaaL07P
namespace Go.Proofs.Ytijjapmdkalfaaa.B
set_option linter.unusedVariables false
set_option linter.unusedSimpArgs false
open Go.ChangeShapes Go.WideShapes Go.RowKit Go.Sort Go.MapKept
theorem num_eight (a : Int) : ∃ N : Nat, wrap64 (1 + wrap64 ((IntKind.u64.wrap a).tmod 8)) = (N : Int) ∧ 1 ≤ N ∧ N ≤ 8 := by
  have hw : 0 ≤ IntKind.u64.wrap a := by rw [IntKind.wrap_u64]; omega
  have hm : (IntKind.u64.wrap a).tmod 8 = IntKind.u64.wrap a % 8 := Int.tmod_eq_emod_of_nonneg hw
  rw [hm]
  refine ⟨(1 + IntKind.u64.wrap a % 8).toNat, ?_, by omega, by omega⟩
  unfold wrap64
  omega
/-- Behind Status is cleared. -/
def clr (t : Tm) : Tm := { t with st := false }
theorem clr_ok {t : Tm} (h : t.ok) : (clr t).ok := ⟨h.l0, h.l1, h.v0, h.v1, h.s0, h.s1, h.p0, h.p1⟩
theorem sto_clr (t : Tm) : t.sto 12 1 = clr t := by
  show ({ t with st := t.st && !bit 1 0 } : Tm) = _
  rw [show bit 1 0 = true by decide]
  simp [clr]
theorem at_status {n k : Nat} (h : k < n) : kErr n (32 * (k : Int) + 12) = 0 ∧ ((32 * (k : Int) + 12) / 32).toNat = k ∧ (32 * (k : Int) + 12) % 32 = 12 := by
  refine ⟨?_, by omega, by omega⟩
  unfold kErr
  rw [if_neg (by simp; omega), if_neg (by omega)]
theorem sto_status {n k : Nat} (h : k < n) (t : Nat → Tm) : kSErr n (32 * (k : Int) + 12) = 0 ∧ kSto n t (32 * (k : Int) + 12) 1 = upd1 t k (clr (t k)) := by
  obtain ⟨h1, h2, h3⟩ := at_status h
  have hs : kSErr n (32 * (k : Int) + 12) = 0 := by
    unfold kSErr
    rw [if_pos h1, h3]; rfl
  refine ⟨hs, ?_⟩
  unfold kSto
  rw [if_pos hs, h2, h3, sto_clr]
theorem val_status {n k : Nat} (h : k < n) (t : Nat → Tm) : kLErr n (32 * (k : Int) + 12) = 0 ∧ kVal n t (32 * (k : Int) + 12) = tk (t k).st := by
  obtain ⟨h1, h2, h3⟩ := at_status h
  constructor
  · unfold kLErr
    rw [if_pos h1, h3]; rfl
  · unfold kVal
    rw [if_pos h1, h2, h3]; rfl
theorem ob_none (f : Nat → Bool) : ∀ n : Nat, (∀ i, i < n → f i = false) → ob f n = 0 := by
  intro n
  induction n with
  | zero => intro _; rfl
  | succ n ih => intro h; rw [ob_no f n (h n (by omega))]; exact ih fun i hi => h i (by omega)
/-- Ahead of the least left nothing expires. -/
theorem st_early {t : Tm} (o : t.ok) (hs : t.st = false) {m : Int} (m1 : 1 ≤ m) (hm : t.en = true → m ≤ t.left) : (t.tick (m - 1)).st = false := by
  cases he : t.en
  · rw [Tm.tick_off he]; exact hs
  · rw [Tm.tick_lt he (by have := hm he; omega)]; exact hs
theorem st_late {t : Tm} (o : t.ok) (he : t.en = true) : ((t.tick (t.left - 1)).tick 1).st = true := by
  have hl := o.left
  rw [Tm.tick_tick o (by omega) (by omega), show t.left - 1 + 1 = t.left by omega, Tm.tick_ge o he (Int.le_refl _), Int.sub_self, Tm.tick_zero (Tm.exp_ok o)]
  unfold Tm.exp
  split <;> rfl
set_option maxRecDepth 100000 in
set_option maxHeartbeats 6400000 in
theorem bankLeft (w : World) (a : Int) (a0 : -9223372036854775808 ≤ a) (a1 : a < 9223372036854775808) (y : Option Addr) (len cap : Nat) (hy : ActsIn w y len cap) :
    Calls Try.prog 4 #[.int .i64 a, .slice y len cap] w fun e w' => e = .returned (.bool true) ∧ Below w.heap.size w w' := by
  have HY := Lib.hid hy
  obtain ⟨n, hN, n0, n8⟩ := num_eight a
  have HN := Lib.hid hN
  clear hy hN
  have hmk := mkRun n n8
  go_enter Try.func4, Try.ntmps4
  go_upto_region 2 with (fail)
  simp only [HN.out]
  clear HN
  generalize wrap64 ((IntKind.u64.wrap a).tmod 8) = z1
  generalize (IntKind.u64.wrap a).tmod 8 = z2
  generalize IntKind.u64.wrap a = z3
  go_wp2_with fail
  refine (bNew n n0 n8 w).mono ?_
  rintro e w1 ⟨p, g, q, rfl, K0, hB, hp, hg, hq⟩
  have P0 : Pr (w1.alloc (zR n)) w.heap.size p g n q w1.heap.size n (fun _ => tz) := ⟨K0.below (trA (tr0 w1) _), rwMade n n8 w1, hp, hg, hq, n0⟩
  have B0 := trA hB (zR n)
  clear K0 hB hp hg hq
  go_upto_region 6 with (fail)
  generalize w1.alloc (zR n) = W at *
  generalize w1.heap.size = gm at *
  clear hmk
  go_wp2_with fail
  go_loopw [5, 7, 8] (fun l m i wr => ∃ (k p g : Nat) (q : Nat → Nat) (gm cap : Nat) (t : Nat → Tm), k ≤ len ∧ k ≤ 30 ∧ i = .int .i64 k ∧ l = .pointer (some ⟨p, 0, none⟩) ∧ m = .slice (some ⟨gm, 0, none⟩) n cap ∧ Pr wr w.heap.size p g n q gm cap t ∧ Below w.heap.size w wr) (fun l m i wr => len - (intOf i).toNat)
  case atStart => exact ⟨0, p, g, q, gm, n, _, by omega, by omega, rfl, rfl, rfl, P0, B0⟩
  case round =>
    clear P0 B0
    obtain ⟨k, p, g, q, gm, cp, t, hk, hkl, rfl, rfl, rfl, P, hB⟩ := hrel
    by_cases hlt : k < len ∧ k < 30
    · obtain ⟨hlt, hlm⟩ := hlt
      rcases HY.out with hy | ⟨b, off, rfl, hlc, hcm, hbl, hz⟩
      · omega
      unfold maxLen at hcm
      obtain ⟨K, N, o, v, c0, c1, c2, c3, ⟨k0, k1⟩, ⟨N0, N1⟩, ⟨o0, o1⟩, ⟨v0, v1⟩⟩ := hz k (by omega)
      rw [← hB.cell (p := ⟨b, _, none⟩) (by simpa using hbl)] at c0 c1 c2 c3
      clear hz
      have hsz := hB.size
      go_wp2_with fail
      refine (bDo P hsz K N o v N0 N1 o0 o1 v0 v1).mono ?_
      rintro e W2 ⟨p', g', q', gm', cap', t', rfl, P2, hb2⟩
      have B2 := hB.trans hb2
      clear P hB hb2 c0 c1 c2 c3 hsz
      go_wp2_with fail
      go_roundw
      case rel => exact ⟨k + 1, p', g', q', gm', cap', t', by omega, by omega, by go_num, rfl, rfl, P2, B2⟩
      case measure => simp [intOf]; omega
    · have H := P.k
      have hq := P.hq
      have OK := Lib.hid P.k.rm.ok
      have fin : (k < len ∧ ¬ k < 30) ∨ ¬ k < len := by omega
      clear hlt hk hkl P
      have hq2 := Lib.hid hq
      clear hq
      rcases fin with ⟨f1, f2⟩ | f1
      all_goals
        go_wp2_with fail
        go_loopw [9] (fun i wr => ∃ k : Nat, k ≤ n ∧ i = .int .i64 k ∧ BkAt wr p g n q (fun i => if i < k then clr (t i) else t i) ∧ Below w.heap.size w wr) (fun i wr => n - (intOf i).toNat)
        case atStart => exact ⟨0, by omega, rfl, H.congr (fun i _ => by simp), hB⟩
        case round =>
          clear H hB
          obtain ⟨k, hk, rfl, H, hB⟩ := hrel
          by_cases hlt : k < n
          · have hs := sto_status hlt (fun i => if i < k then clr (t i) else t i)
            simp only [Nat.lt_irrefl, if_false] at hs
            have C := bStore H (32 * (k : Int) + 12) 1 (by omega) (by omega) (by omega) (by omega)
            rw [hs.1, hs.2] at C
            clear hs
            go_wp2_with fail
            refine C.mono ?_
            rintro e w2 ⟨rfl, K2, ho2⟩
            have H2 := K2.congr (fun i _ => upd_step t clr k i)
            have B2 := own_below hB ho2 hq2.out (Nat.le_refl _)
            clear K2 ho2 H hB C
            go_wp2_with fail
            go_roundw
            case rel => exact ⟨k + 1, by omega, by go_num, H2, B2⟩
            case measure => simp [intOf]; omega
          · obtain rfl : k = n := by omega
            obtain ⟨T, hT⟩ : ∃ T : Nat → Tm, (fun i => clr (t i)) = T := ⟨_, rfl⟩
            have H1 : BkAt wr p g k q T := by rw [← hT]; exact H.congr (fun i hi => if_pos hi)
            have hst : ∀ i, i < k → (T i).st = false := fun i hi => by rw [← hT]; rfl
            have oks : ∀ i, i < k → (T i).ok := H1.rm.ok
            clear H hk hlt hT OK
            obtain ⟨m, i, hbest⟩ := best_some T k oks
            have hm := hbest.bounds oks
            have CL := Lib.hid (fun w (h : BkAt w p g k q T) => bLeft h m i hbest)
            rcases hbest with ⟨rfl, rfl, hno⟩ | ⟨j, rfl, _, hj, he, hmj, hle⟩
            · have hz : ob (fun i => (T i).en) k = 0 := ob_none _ k (fun i hi => hno i (by omega) hi)
              have CR := Lib.hid (fun w (h : BkAt w p g k q T) => by have := bRuns h; rw [hz] at this; exact this)
              unfold nvr at CL
              clear hm hst oks hno hz
              go_wp2_with fail
              refine (CL.out _ H1).mono ?_
              rintro e w2 ⟨rfl, hb⟩
              have H2 := H1.below hb
              have B2 := tr hB hb
              clear H1 hB hb CL
              go_wp2_with fail
              refine (bKnown _).mono ?_
              rintro e w3 ⟨rfl, hb⟩
              have H3 := H2.below hb
              have B3 := tr B2 hb
              clear H2 B2 hb
              go_wp2_with fail
              refine (CR.out _ H3).mono ?_
              rintro e w4 ⟨rfl, hb⟩
              have B4 := tr B3 hb
              clear H3 B3 hb
              go_wp2_with fail
              go_ret
              exact ⟨rfl, B4⟩
            · obtain ⟨T1, hT1⟩ : ∃ T1 : Nat → Tm, (fun i => (T i).tick (m - 1)) = T1 := ⟨_, rfl⟩
              obtain ⟨T2, hT2⟩ : ∃ T2 : Nat → Tm, (fun i => (T1 i).tick 1) = T2 := ⟨_, rfl⟩
              have e1 : ∀ i, i < k → (T1 i).st = false := fun i hi => by
                rw [← hT1]
                exact st_early (oks i hi) (hst i hi) hm.1 (fun he => (hle i (by omega) hi he).1)
              have e2 : (T2 j).st = true := by
                rw [← hT2, ← hT1]
                show (((T j).tick (m - 1)).tick 1).st = true
                rw [hmj]
                exact st_late (oks j hj) he
              have C1 := Lib.hid (fun w (h : BkAt w p g k q T) => by have := bTick h (m - 1) (by omega) (by unfold nvr at hm; omega); rw [hT1] at this; exact this)
              have C2 := Lib.hid (fun w (h : BkAt w p g k q T1) => by have := bTick h 1 (by omega) (by omega); rw [hT2] at this; exact this)
              have E1 := Lib.hid e1
              have L2 := Lib.hid (fun w (h : BkAt w p g k q T2) => by have := bLoad h (32 * (j : Int) + 12) (by omega) (by omega); rw [(val_status hj T2).1, (val_status hj T2).2, e2] at this; exact this)
              unfold nvr at hm
              have hm0 : 0 < m := by omega
              clear hst oks hmj hle he hT1 hT2 e1 e2
              go_wp2_with fail
              refine (CL.out _ H1).mono ?_
              rintro e w2 ⟨rfl, hb⟩
              have H2 := H1.below hb
              have B2 := tr hB hb
              clear H1 hB hb CL
              go_wp2_with fail
              refine (C1.out _ H2).mono ?_
              rintro e w3 ⟨rfl, H3, ho3⟩
              have B3 := own_below B2 ho3 hq2.out (Nat.le_refl _)
              clear H2 B2 ho3 C1
              go_wp2_with fail
              go_loopw [12] (fun i wr => ∃ c : Nat, c ≤ k ∧ i = .int .i64 c ∧ BkAt wr p g k q T1 ∧ Below w.heap.size w wr) (fun i wr => k - (intOf i).toNat)
              case atStart => exact ⟨0, by omega, rfl, H3, B3⟩
              case round =>
                clear H3 B3
                obtain ⟨c, hc, rfl, H, hB⟩ := hrel
                by_cases hlt : c < k
                · have C := bLoad H (32 * (c : Int) + 12) (by omega) (by omega)
                  rw [(val_status hlt T1).1, (val_status hlt T1).2, E1.out c hlt] at C
                  simp only [tk, cond_false] at C
                  go_wp2_with fail
                  refine C.mono ?_
                  rintro e w' ⟨rfl, rfl⟩
                  clear C
                  go_wp2_with fail
                  go_roundw
                  case rel => exact ⟨c + 1, by omega, by go_num, H, hB⟩
                  case measure => simp [intOf]; omega
                · obtain rfl : c = k := by omega
                  go_wp2_with fail
                  refine (C2.out _ H).mono ?_
                  rintro e w4 ⟨rfl, H4, ho4⟩
                  have B4 := own_below hB ho4 hq2.out (Nat.le_refl _)
                  clear H hB ho4 C2
                  simp only [tk, cond_true] at L2
                  go_wp2_with fail
                  refine (L2.out _ H4).mono ?_
                  rintro e w' ⟨rfl, rfl⟩
                  go_wp2_with fail
                  refine (bKnown _).mono ?_
                  rintro e w5 ⟨rfl, hb⟩
                  go_wp2_with fail
                  go_ret
                  exact ⟨rfl, tr B4 hb⟩
end Go.Proofs.Ytijjapmdkalfaaa.B
