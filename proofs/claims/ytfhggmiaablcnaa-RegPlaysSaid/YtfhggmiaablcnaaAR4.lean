/- The document's file: All. -/
import Derived.Test.YtfhggmiaablcnaaAR3
import Derived.Test.YtfhggmiaablcnaaFileG
import Derived.Test.YtfhggmiaablcnaaMapE
import Derived.Deep.RegionLaw
namespace Go.Proofs.Ytfhggmiaablcnaa.B
set_option linter.unusedVariables false
set_option linter.unusedSimpArgs false
open Go.ChangeShapes Go.WideShapes Go.RowKit Go.Sort
def agA (p : Int × Rg) : Int × Rg := (p.1, p.2.again)
set_option maxRecDepth 100000 in
set_option maxHeartbeats 3200000 in
theorem aAll {B : Nat} {v : Value} {L : List (Int × Rg)} {w : World} (hO : OwnA w B v L) (hl : L.length < 100000) :
    Calls Try.prog 15 #[v] w fun e w' => ∃ v', e = .returned v' ∧ OwnA w' w.heap.size v' (L.map agA) ∧ Below w.heap.size w w' := by
  rcases hO.cases with ⟨rfl, rfl⟩ | ⟨g, cap, rfl, hB, hnc, hcm, hgl, _⟩
  · go_enter Try.func15, Try.ntmps15
    go_wp2_with fail
    refine wp_loop_rounds 1 ?_
    rw [rounds_succ]
    go_wp2_with fail
    go_ret
    exact ⟨_, rfl, ownA_nil _ _, tr0 w⟩
  · unfold maxLen at hcm
    obtain ⟨i0, hi0, hz0, hz1, hz2⟩ := info_parts infoA
    have HI0 := Lib.hid hi0
    have HZ0 := Lib.hid hz0
    have HZ1 := Lib.hid hz1
    have HZ2 := Lib.hid hz2
    clear hi0 hz0 hz1 hz2
    have HO0 := Lib.hid hO
    clear hO
    go_enter Try.func15, Try.ntmps15
    go_wp2_with fail
    go_loopw [3, 4] (fun u i wr => ∃ k : Nat, k ≤ L.length ∧ i = .int .i64 k ∧ OwnA wr w.heap.size u ((L.take k).map agA) ∧ Below w.heap.size w wr) (fun u i wr => L.length - (intOf i).toNat)
    case atStart => exact ⟨0, by omega, rfl, by rw [List.take_zero]; exact ownA_nil _ _, tr0 w⟩
    case round =>
      obtain ⟨k, hk, rfl, O, hBl⟩ := hrel
      by_cases hlt : k < L.length
      · obtain ⟨p, hp⟩ : ∃ p, L[k]? = some p := ⟨L[k], List.getElem?_eq_getElem hlt⟩
        have hxt : (L.take (k + 1)).map agA = (L.take k).map agA ++ [agA p] := by rw [List.take_add_one, hp]; simp
        have HL := Lib.hid (HO0.out.below hBl)
        have HP := Lib.hid hp
        have c0 := HL.out.cell hp 0 (by decide)
        have c1 := HL.out.cell hp 1 (by decide)
        have c2 := HL.out.cell hp 2 (by decide)
        have c3 := HL.out.cell hp 3 (by decide)
        have c4 := HL.out.cell hp 4 (by decide)
        obtain ⟨off, ⟨a, s, wm, c⟩⟩ := p
        simp only [al, List.getElem?_cons_zero, List.getElem?_cons_succ, Nat.add_zero] at c0 c1 c2 c3 c4
        have HO := Lib.hid O
        have HBl := Lib.hid hBl
        have HX := Lib.hid hxt
        have hlo : ((L.take k).map agA).length = k := by simp; omega
        have hsz : w.heap.size ≤ wr.heap.size := hBl.size
        clear O hp hxt hBl
        go_wp2_with fail
        go_region_law (first
          | (go_simp
             refine (rAgain a s wm c _).mono ?_
             rintro e w6 ⟨rfl, hb6⟩
             dsimp only
             have hb7 := tr (trD (tr0 wr)) hb6
             clear c0 c1 c2 c3 c4
             have c0 := (HL.out.below hb7).cell HP.out 0 (by decide)
             simp only [al, List.getElem?_cons_zero, Nat.add_zero] at c0)
          | (refine step_append_own rfl (.tmp 11) (.tmp 24) 25 rfl w.heap.size 81 i0 _ 5 20 Try.underlying25 HI0.out HZ0.out HZ1.out HZ2.out rfl (by decide) _ k _ rfl (by have := (HO.out.below hb7).below (trA (tr0 w6) (.cells (al (agA (off, ⟨a, s, wm, c⟩))).toArray 81 (0, 0))); unfold OwnA at this; rw [hlo] at this; exact this) ⟨w6.heap.size, 0, none⟩ 1 1 (al (agA (off, ⟨a, s, wm, c⟩))) rfl rfl (fun j u hu => by rw [Addr.add_lit, Nat.zero_add, cell_of_row _ w6.heap.size j _ _ _ (blk_new w6 _)]; have hu2 : ([.int .u32 off, .int .u32 s, .int .u32 s, .int .u32 wm, .int .u32 c] : List Value)[j]? = some u := hu; simpa using hu2) (al_one _) (by unfold maxLen; omega) (by omega) (by have := hb7.size; simp; omega) ?_
             intro v' w8 h8 g8 _ _))
        all_goals
          have O8 : OwnA w8 w.heap.size v' ((L.take (k + 1)).map agA) := by
            rw [HX.out]
            unfold OwnA
            rw [List.length_append, hlo, List.flatMap_append]
            simpa using h8
          have B8 := Off.toBelow (trA (tr HBl.out hb7) (.cells (al (agA (off, ⟨a, s, wm, c⟩))).toArray 81 (0, 0))) (Off.ofGrown g8 fun k e => e) (fun b hb e => by have := (HO.out.block e).1; omega) (Nat.le_refl _)
          clear HO h8 g8 hb7 hb6
          go_wp2_with fail
          go_roundw
          case rel => exact ⟨k + 1, by omega, by go_num, O8, B8⟩
          case measure => simp [intOf]; omega
      · obtain rfl : k = L.length := by omega
        rw [List.take_length] at O
        go_wp2_with fail
        go_ret
        exact ⟨_, rfl, O, hBl⟩
end Go.Proofs.Ytfhggmiaablcnaa.B
