/- Are a bank and the document's row the same? They are. -/
import Derived.Test.YtijjapmdkalfaaaL07
import Derived.Test.YtijjapmdkalfaaaL06A
import Derived.Test.YtijjapmdkalfaaaGR2
import Derived.Test.YtijjapmdkalfaaaGR2L
import Derived.Deep.RegionWith
namespace Go.Proofs.Ytijjapmdkalfaaa.B
set_option linter.unusedVariables false
set_option linter.unusedSimpArgs false
open Go.ChangeShapes Go.WideShapes Go.RowKit Go.Sort Go.MapKept
set_option maxRecDepth 100000 in
set_option maxHeartbeats 3200000 in
theorem bAlike {w : World} {p g n gm cap : Nat} {q : Nat → Nat} {t : Nat → Tm} (h : BkAt w p g n q t) (r : RwAt w gm n cap t) :
    Calls Try.prog 10 #[.pointer (some ⟨p, 0, none⟩), .slice (some ⟨gm, 0, none⟩) n cap] w fun e w' => e = .returned (.bool true) ∧ Below w.heap.size w w' := by
  have n8 := h.rm.n8
  have OK := Lib.hid h.rm.ok
  have hcm := r.cm
  have hnc := r.nc
  unfold maxLen at hcm
  obtain ⟨m, i, hbest⟩ := best_some t n h.rm.ok
  have hm := hbest.bounds h.rm.ok
  have hi := hbest.place
  unfold nvr at hm
  have HBest := Lib.hid hbest
  obtain ⟨X, hX⟩ : ∃ X, ob (fHi t) n = X := ⟨_, rfl⟩
  obtain ⟨Y, hY⟩ : ∃ Y, ob (fRn t) n = Y := ⟨_, rfl⟩
  have CW := Lib.hid (fun (w : World) (r : RwAt w gm n cap t) => by have := gWords r n8; rw [hX, hY] at this; exact this)
  have CLi := Lib.hid (fun (w : World) (h : BkAt w p g n q t) => by have := bLines h; rw [show ob (fun i => (t i).st && (t i).iq) n = X from hX] at this; exact this)
  have CR := Lib.hid (fun (w : World) (h : BkAt w p g n q t) => by have := bRuns h; rw [show ob (fun i => (t i).en) n = Y from hY] at this; exact this)
  have z1 : (X != X) = false := by simp
  have z2 : (Y != Y) = false := by simp
  have z3 : (m != m) = false := by simp
  have z4 : (i != i) = false := by simp
  clear hbest hX hY
  have H := h
  have R := r
  clear h r
  go_enter Try.func10, Try.ntmps10
  go_wp2_with fail
  refine (bLen H).mono ?_
  rintro e w' ⟨rfl, rfl⟩
  go_wp2_with fail
  refine (CW.out _ R).mono ?_
  rintro e w' ⟨rfl, rfl⟩
  go_wp2_with fail
  refine (gLeft R OK.out n8 m i HBest.out).mono ?_
  rintro e w1 ⟨rfl, hb⟩
  have H1 := H.below hb
  have R1 := R.below hb
  have B1 := hb
  clear H R hb
  go_wp2_with fail
  refine (bLeft H1 m i HBest.out).mono ?_
  rintro e w2 ⟨rfl, hb⟩
  have H := H1.below hb
  have R := R1.below hb
  have hB := tr B1 hb
  clear H1 R1 B1 hb
  go_wp2_with fail
  refine (CLi.out _ H).mono ?_
  rintro e w3 ⟨rfl, hb⟩
  have H1 := H.below hb
  have R1 := R.below hb
  have B1 := tr hB hb
  clear H R hB hb
  go_wp2_with fail
  refine (CR.out _ H1).mono ?_
  rintro e w4 ⟨rfl, hb⟩
  have H := H1.below hb
  have R := R1.below hb
  have hB := tr B1 hb
  clear H1 R1 B1 hb
  go_wp2_with fail
  refine (bTimerNo H (-1) (.inl (by omega))).mono ?_
  rintro e w' ⟨rfl, rfl⟩
  go_wp2_with fail
  refine (bTimerNo H n (.inr (by omega))).mono ?_
  rintro e w' ⟨rfl, rfl⟩
  clear CW CLi CR z1 z2 z3 z4 HBest hm hi
  go_wp2_with fail
  go_loopw [11] (fun i wr => ∃ k : Nat, k ≤ n ∧ i = .int .i64 k ∧ BkAt wr p g n q t ∧ RwAt wr gm n cap t ∧ Below w.heap.size w wr) (fun i wr => n - (intOf i).toNat)
  case atStart => exact ⟨0, by omega, rfl, H, R, hB⟩
  case round =>
    clear H R hB
    obtain ⟨k, hk, rfl, H, R, hB⟩ := hrel
    by_cases hlt : k < n
    · have hin := R.at hlt
      have ok := OK.out k hlt
      have HH := Lib.hid H
      have HR := Lib.hid R
      have HBB := Lib.hid hB
      have CT := Lib.hid (fun (w : World) (h : BkAt w p g n q t) => bTimer h k hlt)
      clear H R hB
      go_wp2_with fail
      have hsz : gm < wr.heap.size := hin.lt
      have c0 := hin.cell 0 _ rfl
      have c1 := hin.cell 1 _ rfl
      have c2 := hin.cell 2 _ rfl
      have c3 := hin.cell 3 _ rfl
      have c4 := hin.cell 4 _ rfl
      have c5 := hin.cell 5 _ rfl
      have c6 := hin.cell 6 _ rfl
      have c7 := hin.cell 7 _ rfl
      simp only [Nat.add_zero] at c0
      have HIN := Lib.hid hin
      clear hin
      go_region_with (first
        | (go_at_call 17
           refine (CT.out _ (HH.out.below (trD (tr0 _)))).mono ?_
           rintro e w5 ⟨rfl, hw5⟩
           have hb5 : Below wr.heap.size wr w5 := by rw [hw5]; exact trA (trD (tr0 _)) _
           have A5 : TAt w5 wr.drew.heap.size tC (t k) := by rw [hw5]; exact blk_new wr.drew _
           have hin5 := HIN.out.below hb5
           clear c0 c1 c2 c3 c4 c5 c6 c7 hw5
           have c0 := hin5.cell 0 _ rfl
           have c1 := hin5.cell 1 _ rfl
           have c2 := hin5.cell 2 _ rfl
           have c3 := hin5.cell 3 _ rfl
           have c4 := hin5.cell 4 _ rfl
           have c5 := hin5.cell 5 _ rfl
           have c6 := hin5.cell 6 _ rfl
           have c7 := hin5.cell 7 _ rfl
           simp only [Nat.add_zero] at c0
           clear hin5)
        | (go_at_call 16
           refine (nAlike (t k) _ _ ok A5).mono ?_
           rintro e w6 ⟨rfl, hb6⟩
           have hb6 := hb5.trans (hb6.mono hb5.size)
           clear c0 c1 c2 c3 c4 c5 c6 c7 A5))
      all_goals
        have H2 := HH.out.below hb6
        have R2 := HR.out.below hb6
        have B2 := HBB.out.trans (hb6.mono HBB.out.size)
        go_wp2_with fail
        go_roundw
        case rel => exact ⟨k + 1, by omega, by go_num, H2, R2, B2⟩
        case measure => simp [intOf]; omega
    · obtain rfl : k = n := by omega
      go_wp2_with fail
      go_ret
      exact ⟨rfl, hB⟩
end Go.Proofs.Ytijjapmdkalfaaa.B
