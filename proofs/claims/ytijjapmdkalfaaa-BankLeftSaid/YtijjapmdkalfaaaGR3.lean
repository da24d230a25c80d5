/- The document's Load and Store of a row of timers. -/
import Derived.Test.YtijjapmdkalfaaaGR
import Derived.Test.YtijjapmdkalfaaaNR4
import Derived.Test.YtijjapmdkalfaaaGBank3
import Derived.Deep.Cut
namespace Go.Proofs.Ytijjapmdkalfaaa.B
set_option linter.unusedVariables false
set_option linter.unusedSimpArgs false
open Go.ChangeShapes Go.WideShapes Go.RowKit Go.Sort
theorem gLoad {w : World} {g n cap : Nat} {t : Nat → Tm} (h : RwAt w g n cap t) (ok : ∀ i, i < n → (t i).ok) (n8 : n ≤ 8) (o : Int) (o0 : 0 ≤ o) (o1 : o < 4294967296) :
    Calls Try.prog 26 #[.slice (some ⟨g, 0, none⟩) n cap, .int .u32 o] w fun e w' => e = .returned (.tuple #[.int .u32 (kVal n t o), .int .i64 (kLErr n o)]) ∧ Below w.heap.size w w' := by
  have hcm := h.cm
  have hnc := h.nc
  unfold maxLen at hcm
  unfold kVal kLErr
  by_cases hE : kErr n o = 0
  · rw [if_pos hE, if_pos hE]
    obtain ⟨h4, hn, hk⟩ := kErr_zero o0 hE
    have hin := h.at hk
    have C := Lib.hid (fun w => mLoad (t (o / 32).toNat) (o % 32) w (ok _ hk) (by omega) (by omega))
    clear hE h ok
    generalize (t (o / 32).toNat).val (o % 32) = V at *
    generalize nErr (o % 32) = E at *
    go_enter Try.func26, Try.ntmps26
    go_wp2_with (refine loadR rfl (.tmp 19) rfl rfl hin ?_)
    refine (C.out _).mono ?_
    rintro e w1 ⟨rfl, hb⟩
    go_wp2_with fail
    go_ret2
    exact ⟨rfl, hb⟩
  · rw [if_neg hE, if_neg hE]
    clear h ok
    unfold kErr at hE ⊢
    cases h4 : (o % 4 != 0)
    · rw [h4, if_neg (by simp)] at hE
      by_cases hn : (n : Int) ≤ o / 32
      · clear hE
        go_enter Try.func26, Try.ntmps26
        go_wp2_with fail
        go_ret2
        exact ⟨by simp [hn], tr0 w⟩
      · rw [if_neg hn] at hE
        exact absurd rfl hE
    · clear hE
      go_enter Try.func26, Try.ntmps26
      go_wp2_with fail
      go_ret2
      exact ⟨rfl, tr0 w⟩
theorem kLErr_cases (n : Nat) (o : Int) : kLErr n o = 0 → kErr n o = 0 ∧ nErr (o % 32) = 0 := by
  unfold kLErr
  intro h
  by_cases hE : kErr n o = 0
  · rw [if_pos hE] at h; exact ⟨hE, h⟩
  · rw [if_neg hE] at h; exact absurd h hE
theorem kLErr_no (n : Nat) (o : Int) (h : kLErr n o ≠ 0) : kSErr n o = kLErr n o := by
  unfold kLErr at h ⊢
  unfold kSErr
  by_cases hE : kErr n o = 0
  · rw [if_pos hE] at h
    rw [if_pos hE, if_pos hE]
    unfold nSErr
    rw [if_neg h]
  · rw [if_neg hE, if_neg hE]
theorem upd_same (t : Nat → Tm) (k : Nat) (c : Prop) [Decidable c] (x : Tm) (i : Nat) : upd1 t k (if c then x else t k) i = (if c then upd1 t k x else t) i := by
  by_cases hs : c
  · rw [if_pos hs, if_pos hs]
  · rw [if_neg hs, if_neg hs]
    by_cases e : i = k
    · subst e; exact upd1_at _ _ _
    · exact upd1_ne _ _ e
set_option maxRecDepth 100000 in
set_option maxHeartbeats 1600000 in
theorem gStore {w : World} {g n cap : Nat} {t : Nat → Tm} (h : RwAt w g n cap t) (ok : ∀ i, i < n → (t i).ok) (n0 : 1 ≤ n) (n8 : n ≤ 8) (o x : Int) (o0 : 0 ≤ o) (o1 : o < 4294967296) (x0 : 0 ≤ x) (x1 : x < 4294967296) :
    Calls Try.prog 27 #[.slice (some ⟨g, 0, none⟩) n cap, .int .u32 o, .int .u32 x] w fun e w' => ∃ g' cap', e = .returned (.tuple #[.slice (some ⟨g', 0, none⟩) n cap', .int .i64 (kSErr n o)]) ∧ RwAt w' g' n cap' (kSto n t o x) ∧ Below w.heap.size w w' ∧ (g' = g ∨ w.heap.size ≤ g') := by
  have hcm := h.cm
  have hnc := h.nc
  unfold maxLen at hcm
  have L := gLoad h ok n8 o o0 o1
  by_cases hE : kLErr n o = 0
  · obtain ⟨hk0, hn0⟩ := kLErr_cases n o hE
    obtain ⟨h4, hn, hk⟩ := kErr_zero o0 hk0
    rw [hE] at L
    have hS : kSErr n o = nSErr (o % 32) := by unfold kSErr; rw [if_pos hk0]
    unfold kSto
    rw [hS]
    have C := Lib.hid (fun w => mStore (t (o / 32).toNat) (o % 32) x w (ok _ hk) (by omega) (by omega) x0 x1)
    generalize kVal n t o = V0 at *
    have HW := Lib.hid h
    have OK := Lib.hid ok
    have hcg : ∀ i, i < n → upd1 t (o / 32).toNat (if nSErr (o % 32) = 0 then (t (o / 32).toNat).sto (o % 32) x else t (o / 32).toNat) i = (if nSErr (o % 32) = 0 then upd1 t (o / 32).toNat ((t (o / 32).toNat).sto (o % 32) x) else t) i := fun i _ => upd_same t _ _ _ i
    have HC := Lib.hid hcg
    clear hE hk0 hn0 h4 hS h ok hcg
    generalize (if nSErr (o % 32) = 0 then (t (o / 32).toNat).sto (o % 32) x else t (o / 32).toNat) = s at *
    generalize (if nSErr (o % 32) = 0 then upd1 t (o / 32).toNat ((t (o / 32).toNat).sto (o % 32) x) else t) = T at *
    generalize nSErr (o % 32) = E at *
    go_enter Try.func27, Try.ntmps27
    go_wp2_with fail
    refine L.mono ?_
    rintro e w1 ⟨rfl, hb⟩
    have H := HW.out.below hb
    have hin := H.at hk
    have hB := hb
    clear HW hb L
    go_wp2_with (refine loadR rfl (.tmp 26) rfl rfl hin ?_)
    refine (C.out _).mono ?_
    rintro e w2 ⟨rfl, hb⟩
    have H2 := H.below hb
    have B2 := tr hB hb
    clear C H hB hb hin
    have Z : MAt (w2.alloc zM) w2.heap.size tz := blk_new w2 zM
    have B3 := below_setRow (trA B2 zM) (rl s).toArray B2.size
    have H3 := H2.below (below_setRow (trA (tr0 w2) zM) (rl s).toArray (Nat.le_refl _))
    have Y := MAt.row Z s
    have hsz : w.heap.size ≤ w2.heap.size := B2.size
    clear H2
    go_upto_region 5 with (refine storeM rfl (.tmp 10) (.tmp 32) rfl rfl rfl Z ?_)
    rw [zM_eq]
    clear Z B2
    generalize ((w2.alloc zM).setRow w2.heap.size (rl s).toArray) = W at *
    generalize w2.heap.size = y at *
    have OO := World.ownsRow_made (base := w.heap.size) (e := 48) (size := 8) W #[] 0 B3.size (by decide) rfl
    have H4 := H3.below (trA (tr0 W) (.cells #[] 48 (0, 0)))
    have Y4 := Y.below (trA (tr0 W) (.cells #[] 48 (0, 0)))
    have B4 := trA B3 (.cells #[] 48 (0, 0))
    have hWs := B3.size
    have hyW := Y.lt
    have hB4s := B4.size
    clear H3 Y B3
    go_upto_region 6 with (refine appendAllR rfl (.tmp 34) (.tmp 35) rfl (v := .slice (some ⟨W.heap.size, 0, none⟩) 0 0) rfl OO rfl H4 n8 hB4s ?_; intro v' W5 O5 ho5)
    have ho6 : Off (· = W.heap.size) (W.alloc (.cells #[] 48 (0, 0))) W5 := ho5.mono fun k _ e => (Option.some.inj e).symm
    have Y5 := Y4.off ho6 (fun e => by omega)
    have B5 := Off.toBelow B4 ho6 (fun b hb e => by omega) (Nat.le_refl _)
    obtain ⟨g', cap', rfl, hg', R5⟩ := O5.rw (by omega)
    have hcm' := R5.cm
    have hnc' := R5.nc
    unfold maxLen at hcm'
    clear OO H4 Y4 B4 hWs hyW hB4s ho5 ho6 O5
    go_upto_region 7 with (first
      | (refine loadM rfl (.tmp 10) rfl rfl Y5 ?_)
      | (refine storeR rfl (.tmp 41) (.tmp 40) rfl rfl rfl R5 hk ?_; intro W6 R6 ho6))
    have B6 := Off.toBelow B5 ho6 (fun b hb e => by omega) (Nat.le_refl _)
    have R7 := R6.congr HC.out
    clear R5 Y5 B5 ho6 R6
    go_wp2_with fail
    go_ret2
    exact ⟨g', cap', rfl, R7, B6, .inr hg'⟩
  · have hS := kLErr_no n o hE
    have hT : kSto n t o x = t := by unfold kSto; rw [hS, if_neg hE]
    rw [hS, hT]
    have hne : (kLErr n o == 0) = false := by simpa using hE
    have hn2 : (kLErr n o != 0) = true := by simpa using hE
    generalize kLErr n o = E at *
    generalize kVal n t o = V0 at *
    have H := Lib.hid h
    clear h hE ok hS hT
    go_enter Try.func27, Try.ntmps27
    go_wp2_with fail
    refine L.mono ?_
    rintro e w1 ⟨rfl, hb⟩
    go_wp2_with fail
    go_ret2
    exact ⟨g, cap, rfl, H.out.below hb, hb, .inl rfl⟩
end Go.Proofs.Ytijjapmdkalfaaa.B
