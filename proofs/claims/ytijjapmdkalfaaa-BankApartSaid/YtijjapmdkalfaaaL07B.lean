/- The law BankApart: what is stored to one timer changes no other one. -/
import Derived.Test.YtijjapmdkalfaaaL07L
namespace Go.Proofs.Ytijjapmdkalfaaa.B
set_option linter.unusedVariables false
set_option linter.unusedSimpArgs false
open Go.ChangeShapes Go.WideShapes Go.RowKit Go.Sort Go.MapKept
theorem kSto_ne (n : Nat) (t : Nat → Tm) (o x : Int) (i : Nat) (h : i ≠ (o / 32).toNat) : kSto n t o x i = t i := by
  unfold kSto
  split
  · exact upd1_ne _ _ h
  · rfl
set_option maxRecDepth 100000 in
set_option maxHeartbeats 6400000 in
theorem bankApart (w : World) (a : Int) (a0 : -9223372036854775808 ≤ a) (a1 : a < 9223372036854775808) (y : Option Addr) (len cap : Nat) (hy : ActsIn w y len cap) (of ov : Int) (of0 : 0 ≤ of) (of1 : of < 4294967296) (ov0 : 0 ≤ ov) (ov1 : ov < 4294967296) :
    Calls Try.prog 5 #[.int .i64 a, .slice y len cap, .int .u32 of, .int .u32 ov] w fun e w' => e = .returned (.bool true) ∧ Below w.heap.size w w' := by
  have HY := Lib.hid hy
  obtain ⟨n, hN, n0, n8⟩ := num_eight a
  have HN := Lib.hid hN
  clear hy hN
  have hmk := mkRun n n8
  go_enter Try.func5, Try.ntmps5
  go_upto_region 2 with (fail)
  simp only [HN.out]
  clear HN
  generalize wrap64 ((IntKind.u64.wrap a).tmod 8) = z1
  generalize (IntKind.u64.wrap a).tmod 8 = z2
  generalize IntKind.u64.wrap a = z3
  go_wp2_with fail
  refine (bNew n n0 n8 w).mono ?_
  rintro e w1 ⟨p, g, q, rfl, K0, hB, hp, hg, hq⟩
  have P0 : Pr (w1.alloc (zR n)) w.heap.size p g n q w1.heap.size n (fun _ => tz) := ⟨K0.below (trA (tr0 w1) _), rwMade n n8 w1, hp, hg, hq, n0⟩
  have B0 := trA hB (zR n)
  clear K0 hB hp hg hq
  go_upto_region 6 with (fail)
  generalize w1.alloc (zR n) = W at *
  generalize w1.heap.size = gm at *
  clear hmk
  go_wp2_with fail
  go_loopw [9, 11, 12] (fun l m i wr => ∃ (k p g : Nat) (q : Nat → Nat) (gm cap : Nat) (t : Nat → Tm), k ≤ len ∧ k ≤ 30 ∧ i = .int .i64 k ∧ l = .pointer (some ⟨p, 0, none⟩) ∧ m = .slice (some ⟨gm, 0, none⟩) n cap ∧ Pr wr w.heap.size p g n q gm cap t ∧ Below w.heap.size w wr) (fun l m i wr => len - (intOf i).toNat)
  case atStart => exact ⟨0, p, g, q, gm, n, _, by omega, by omega, rfl, rfl, rfl, P0, B0⟩
  case round =>
    clear P0 B0
    obtain ⟨k, p, g, q, gm, cp, t, hk, hkl, rfl, rfl, rfl, P, hB⟩ := hrel
    by_cases hlt : k < len ∧ k < 30
    · obtain ⟨hlt, hlm⟩ := hlt
      rcases HY.out with hy | ⟨b, off, rfl, hlc, hcm, hbl, hz⟩
      · omega
      unfold maxLen at hcm
      obtain ⟨K, N, o, v, c0, c1, c2, c3, ⟨k0, k1⟩, ⟨N0, N1⟩, ⟨o0, o1⟩, ⟨v0, v1⟩⟩ := hz k (by omega)
      rw [← hB.cell (p := ⟨b, _, none⟩) (by simpa using hbl)] at c0 c1 c2 c3
      clear hz
      have hsz := hB.size
      go_wp2_with fail
      refine (bDo P hsz K N o v N0 N1 o0 o1 v0 v1).mono ?_
      rintro e W2 ⟨p', g', q', gm', cap', t', rfl, P2, hb2⟩
      have B2 := hB.trans hb2
      clear P hB hb2 c0 c1 c2 c3 hsz
      go_wp2_with fail
      go_roundw
      case rel => exact ⟨k + 1, p', g', q', gm', cap', t', by omega, by omega, by go_num, rfl, rfl, P2, B2⟩
      case measure => simp [intOf]; omega
    · have H := P.k
      have R := P.r
      have hq := P.hq
      have OK := Lib.hid P.k.rm.ok
      have hcm := P.r.cm
      have hnc := P.r.nc
      unfold maxLen at hcm
      have fin : (k < len ∧ ¬ k < 30) ∨ ¬ k < len := by omega
      clear hlt hk hkl P
      have hq2 := Lib.hid hq
      clear hq
      obtain ⟨o, ho⟩ : ∃ o, of % 256 = o := ⟨_, rfl⟩
      have o0 : 0 ≤ o := by omega
      have o1 : o < 256 := by omega
      have HO := Lib.hid ho
      clear ho
      obtain ⟨T, hT⟩ : ∃ T, kSto n t o ov = T := ⟨_, rfl⟩
      have hne : ∀ i : Nat, ((i : Int) != o / 32) = true → T i = t i := fun i hi => by rw [← hT]; exact kSto_ne n t o ov i (by intro e; simp at hi; omega)
      have C := Lib.hid (by have := bStore H o ov o0 (by omega) ov0 ov1; rw [hT] at this; exact this)
      have HNE := Lib.hid hne
      clear hne hT
      have HH := Lib.hid H
      clear H
      rcases fin with ⟨f1, f2⟩ | f1
      all_goals
        go_wp2_with fail
        simp only [HO.out]
        refine C.out.mono ?_
        rintro e w2 ⟨rfl, H2, ho2⟩
        have R2 := R.off ho2 (HH.out.notRow R)
        have B2 := own_below hB ho2 hq2.out (Nat.le_refl _)
        clear R HH hB ho2 C
        go_wp2_with fail
        go_loopw [13] (fun i wr => ∃ c : Nat, c ≤ n ∧ i = .int .i64 c ∧ BkAt wr p g n q T ∧ RwAt wr gm n cp t ∧ Below w.heap.size w wr) (fun i wr => n - (intOf i).toNat)
        case atStart => exact ⟨0, by omega, rfl, H2, R2, B2⟩
        case round =>
          clear H2 R2 B2
          obtain ⟨c, hc, rfl, H, R, hB⟩ := hrel
          by_cases hlt : c < n
          · cases hcq : ((c : Int) != o / 32)
            · have HH := Lib.hid H
              have HR := Lib.hid R
              have HBB := Lib.hid hB
              clear H R hB
              go_wp2_with fail
              go_region
              all_goals
                have H2 := HH.out.below (trD (tr0 wr))
                have R2 := HR.out.below (trD (tr0 wr))
                have B2 := HBB.out.trans ((trD (tr0 wr)).mono HBB.out.size)
                go_wp2_with fail
                go_roundw
                case rel => exact ⟨c + 1, by omega, by go_num, H2, R2, B2⟩
                case measure => simp [intOf]; omega
            · have hcq2 : ((c : Int) == o / 32) = false := by simpa using hcq
              have hcq3 : ¬ (c : Int) = o / 32 := by simpa using hcq
              have hw1 : IntKind.u32.wrap (o.tdiv 32) = o / 32 := by rw [Int.tdiv_eq_ediv_of_nonneg o0, IntKind.wrap_u32]; omega
              have hw2 : IntKind.i64.wrap (o / 32) = o / 32 := by rw [IntKind.wrap_i64]; omega
              have hin := R.at hlt
              have ok := OK.out c hlt
              have HH := Lib.hid H
              have HR := Lib.hid R
              have HBB := Lib.hid hB
              have hTc := HNE.out c hcq
              have CT := Lib.hid (fun (w : World) (h : BkAt w p g n q T) => by have := bTimer h c hlt; rw [hTc] at this; exact this)
              clear H R hB hTc
              have hsz : gm < wr.heap.size := hin.lt
              have c0 := hin.cell 0 _ rfl
              have c1 := hin.cell 1 _ rfl
              have c2 := hin.cell 2 _ rfl
              have c3 := hin.cell 3 _ rfl
              have c4 := hin.cell 4 _ rfl
              have c5 := hin.cell 5 _ rfl
              have c6 := hin.cell 6 _ rfl
              have c7 := hin.cell 7 _ rfl
              simp only [Nat.add_zero] at c0
              have HIN := Lib.hid hin
              clear hin
              go_wp2_with fail
              refine wp_region_any (by kernel_rfl) ?_
              try (change wpAny _ _ _ _ _ _ _ (World.drew _))
              refine wpAny_take (i := 0) (v := .int .i64 c) rfl (by kernel_rfl) (by kernel_rfl) (by kernel_rfl) (fun _ _ _ h => h) (Or.inl ⟨by kernel_rfl, fun w => by go_simp⟩) ?_
              refine wpAny_take (i := 1) (v := .int .u32 o) rfl (by kernel_rfl) (by kernel_rfl) (by kernel_rfl) (fun _ _ _ h => h) (Or.inl ⟨by kernel_rfl, fun w => by go_simp⟩) ?_
              refine wpAny_take (i := 2) (v := .int .u32 (o / 32)) rfl (by kernel_rfl) (by kernel_rfl) (by kernel_rfl) (fun _ _ _ h => h) (Or.inl ⟨by kernel_rfl, fun w => by go_simp⟩) ?_
              refine wpAny_take (i := 3) (v := .int .i64 (o / 32)) rfl (by kernel_rfl) (by kernel_rfl) (by kernel_rfl) (fun _ _ _ h => h) (Or.inl ⟨by kernel_rfl, fun w => by go_simp⟩) ?_
              refine wpAny_take (i := 4) (v := .bool true) rfl (by kernel_rfl) (by kernel_rfl) (by kernel_rfl) (fun _ _ _ h => h) (Or.inl ⟨by kernel_rfl, fun w => by go_simp⟩) ?_
              refine wpAny_take (i := 5) (v := .bool true) rfl (by kernel_rfl) (by kernel_rfl) (by kernel_rfl) (fun _ _ _ h => h) (Or.inl ⟨by kernel_rfl, fun w => by go_simp⟩) ?_
              refine wpAny_take (i := 6) (v := .pointer (some ⟨p, 0, none⟩)) rfl (by kernel_rfl) (by kernel_rfl) (by kernel_rfl) (fun _ _ _ h => h) (Or.inl ⟨by kernel_rfl, fun w => by go_simp⟩) ?_
              refine wpAny_take (i := 7) (v := .int .i64 c) rfl (by kernel_rfl) (by kernel_rfl) (by kernel_rfl) (fun _ _ _ h => h) (Or.inl ⟨by kernel_rfl, fun w => by go_simp⟩) ?_
              refine wpAny_take (i := 9) (v := .slice (some ⟨gm, 0, none⟩) n cp) rfl (by kernel_rfl) (by kernel_rfl) (by kernel_rfl) (fun _ _ _ h => h) (Or.inl ⟨by kernel_rfl, fun w => by go_simp⟩) ?_
              refine wpAny_take (i := 10) (v := .int .i64 c) rfl (by kernel_rfl) (by kernel_rfl) (by kernel_rfl) (fun _ _ _ h => h) (Or.inl ⟨by kernel_rfl, fun w => by go_simp⟩) ?_
              refine wpAny_take (i := 11) (v := .pointer (some ⟨gm, c * 8, none⟩)) rfl (by kernel_rfl) (by kernel_rfl) (by kernel_rfl) (fun _ _ _ h => h) (Or.inl ⟨by kernel_rfl, fun w => by go_simp⟩) ?_
              refine wpAny_ready (rs := [8, 12]) (by kernel_rfl) (by simp) ?_
              refine AllReady.cons rfl (fun K hK => ?_) (AllReady.cons rfl (fun K hK => ?_) AllReady.nil)
              · go_simp
                go_wp2_with (go_at_call 17; refine (CT.out _ (HH.out.below (trD (tr0 _)))).mono ?_; rintro e w5 ⟨rfl, hw5⟩; have hb5 : Below wr.heap.size wr w5 := (by rw [hw5]; exact trA (trD (tr0 _)) _); have A5 : TAt w5 wr.drew.heap.size tC (t c) := (by rw [hw5]; exact blk_new wr.drew _); clear hw5)
                have hin5 := HIN.out.below hb5
                clear c0 c1 c2 c3 c4 c5 c6 c7
                have c0 := hin5.cell 0 _ rfl
                have c1 := hin5.cell 1 _ rfl
                have c2 := hin5.cell 2 _ rfl
                have c3 := hin5.cell 3 _ rfl
                have c4 := hin5.cell 4 _ rfl
                have c5 := hin5.cell 5 _ rfl
                have c6 := hin5.cell 6 _ rfl
                have c7 := hin5.cell 7 _ rfl
                simp only [Nat.add_zero] at c0
                clear hin5
                refine wpAny_ready (rs := [12]) (by kernel_rfl) (by simp) ?_
                refine AllReady.cons rfl (fun K hK => ?_) AllReady.nil
                go_simp
                refine hK _ _ ?_
                clear hK K
                refine wpAny_ready (rs := [13]) (by kernel_rfl) (by simp) ?_
                refine AllReady.cons rfl (fun K hK => ?_) AllReady.nil
                go_simp
                go_wp2_with (go_at_call 16; refine (nAlike (t c) _ _ ok A5).mono ?_; rintro e w6 ⟨rfl, hb6⟩)
                have hb6 := hb5.trans (hb6.mono hb5.size)
                clear c0 c1 c2 c3 c4 c5 c6 c7 A5
                refine wpAny_take (i := 14) (v := .bool false) rfl (by kernel_rfl) (by kernel_rfl) (by kernel_rfl) (fun _ _ _ h => h) (Or.inl ⟨by kernel_rfl, fun w => by go_simp⟩) ?_
                refine wpAny_take (i := 15) (v := .bool false) rfl (by kernel_rfl) (by kernel_rfl) (by kernel_rfl) (fun _ _ _ h => h) (Or.inl ⟨by kernel_rfl, fun w => by go_simp⟩) ?_
                refine wpAny_done (by kernel_rfl) ?_ _
                have H2 := HH.out.below hb6
                have R2 := HR.out.below hb6
                have B2 := HBB.out.trans (hb6.mono HBB.out.size)
                go_wp2_with fail
                go_roundw
                case rel => exact ⟨c + 1, by omega, by go_num, H2, R2, B2⟩
                case measure => simp [intOf]; omega
              · go_simp
                refine hK _ _ ?_
                clear hK K
                refine wpAny_ready (rs := [8]) (by kernel_rfl) (by simp) ?_
                refine AllReady.cons rfl (fun K hK => ?_) AllReady.nil
                go_simp
                go_wp2_with (go_at_call 17; refine (CT.out _ (HH.out.below (trD (tr0 _)))).mono ?_; rintro e w5 ⟨rfl, hw5⟩; have hb5 : Below wr.heap.size wr w5 := (by rw [hw5]; exact trA (trD (tr0 _)) _); have A5 : TAt w5 wr.drew.heap.size tC (t c) := (by rw [hw5]; exact blk_new wr.drew _); clear hw5)
                have hin5 := HIN.out.below hb5
                clear c0 c1 c2 c3 c4 c5 c6 c7
                have c0 := hin5.cell 0 _ rfl
                have c1 := hin5.cell 1 _ rfl
                have c2 := hin5.cell 2 _ rfl
                have c3 := hin5.cell 3 _ rfl
                have c4 := hin5.cell 4 _ rfl
                have c5 := hin5.cell 5 _ rfl
                have c6 := hin5.cell 6 _ rfl
                have c7 := hin5.cell 7 _ rfl
                simp only [Nat.add_zero] at c0
                clear hin5
                refine wpAny_ready (rs := [13]) (by kernel_rfl) (by simp) ?_
                refine AllReady.cons rfl (fun K hK => ?_) AllReady.nil
                go_simp
                go_wp2_with (go_at_call 16; refine (nAlike (t c) _ _ ok A5).mono ?_; rintro e w6 ⟨rfl, hb6⟩)
                have hb6 := hb5.trans (hb6.mono hb5.size)
                clear c0 c1 c2 c3 c4 c5 c6 c7 A5
                refine wpAny_take (i := 14) (v := .bool false) rfl (by kernel_rfl) (by kernel_rfl) (by kernel_rfl) (fun _ _ _ h => h) (Or.inl ⟨by kernel_rfl, fun w => by go_simp⟩) ?_
                refine wpAny_take (i := 15) (v := .bool false) rfl (by kernel_rfl) (by kernel_rfl) (by kernel_rfl) (fun _ _ _ h => h) (Or.inl ⟨by kernel_rfl, fun w => by go_simp⟩) ?_
                refine wpAny_done (by kernel_rfl) ?_ _
                have H2 := HH.out.below hb6
                have R2 := HR.out.below hb6
                have B2 := HBB.out.trans (hb6.mono HBB.out.size)
                go_wp2_with fail
                go_roundw
                case rel => exact ⟨c + 1, by omega, by go_num, H2, R2, B2⟩
                case measure => simp [intOf]; omega
          · obtain rfl : c = n := by omega
            go_wp2_with fail
            refine (bKnown _).mono ?_
            rintro e w5 ⟨rfl, hb⟩
            go_wp2_with fail
            go_ret
            exact ⟨rfl, tr hB hb⟩
end Go.Proofs.Ytijjapmdkalfaaa.B
