/- slices.Sort at uint32: heapSort, order2, median, medianAdjacent. -/
import Derived.Test.YtafegmmcgghgaaaSrtH
namespace Go.Proofs.Ytafegmmcgghgaaa.B
set_option linter.unusedVariables false
set_option linter.unusedSimpArgs false
open Go.ChangeShapes Go.WideShapes Go.RowKit Go.Sort
theorem sift_size (hi first : Nat) : ∀ (r : Nat) (d : Array Int), (siftDown ltU hi first r d).size = d.size := by
  have : ∀ (k r : Nat), hi - r ≤ k → ∀ d : Array Int, (siftDown ltU hi first r d).size = d.size := by
    intro k
    induction k with
    | zero => intro r hr d; rw [sd_stop (by omega)]
    | succ k ih =>
      intro r hr d
      rw [siftDown.eq_def]
      split
      · rfl
      · split
        · split
          · rfl
          · split
            · rw [ih _ (by omega), swp_size]
            · rfl
        · split
          · rfl
          · rw [ih _ (by omega), swp_size]
  exact fun r d => this _ r (Nat.le_refl _) d
set_option maxRecDepth 100000 in
set_option maxHeartbeats 6400000 in
theorem sHeap (g n cap a b : Nat) (d : Array Int) (w : World) (h : DAt w g d) (hab : a ≤ b) (hb : b ≤ d.size) (hn : d.size = n) (hc : n ≤ cap) (hm : cap ≤ 9223372036854775807) (hm2 : n < 1152921504606846976) :
    Calls Try.prog 77 #[.slice (some ⟨g, 0, none⟩) n cap, .int .i64 a, .int .i64 b] w
      fun e w' => e = .returned (.tuple #[]) ∧ DAt w' g (heapSort ltU d a b) ∧ Off (· = g) w w' := by
  obtain ⟨m, e1⟩ : ∃ m : Nat, (b : Int) - (a : Int) = (m : Int) := ⟨b - a, by omega⟩
  have em : b - a = m := by omega
  obtain ⟨K, hK⟩ : ∃ K : Nat, (m - 1) / 2 + 1 = K := ⟨_, rfl⟩
  have HH := Lib.hid (show heapSort ltU d a b = heapPop ltU a m (heapBuild ltU m a K d) by unfold heapSort; rw [em, hK])
  have e2 : ((m : Int) - 1).tdiv 2 = (K : Int) - 1 := by
    rcases Nat.eq_zero_or_pos m with h0 | h0
    · subst h0; subst hK; decide
    · rw [Int.tdiv_eq_ediv_of_nonneg (by omega)]; omega
  have hmb : a + m ≤ d.size := by omega
  have hKm : K ≤ m + 1 := by omega
  clear em hK hb hab
  go_enter Try.func77, Try.ntmps77
  go_upto_region 4 with (fail)
  clear e1 e2
  go_loopw [9] (fun s wr => ∃ (k : Nat) (i : Int) (d' : Array Int), k ≤ K ∧ i + 1 = k ∧ s = .int .i64 i ∧ DAt wr g d' ∧ d'.size = d.size ∧ heapBuild ltU m a k d' = heapBuild ltU m a K d ∧ Off (· = g) w wr) (fun s _ => (intOf s + 1).toNat)
  case atStart => exact ⟨K, (K : Int) - 1, d, by omega, by omega, rfl, h, rfl, rfl, Off.refl _ _⟩
  case round =>
    clear h
    obtain ⟨k, i, d', hk, hi, rfl, hD, hs, hR, ho⟩ := hrel
    by_cases hi0 : 0 ≤ i
    · obtain ⟨z, rfl⟩ := Int.eq_ofNat_of_zero_le hi0
      obtain rfl : k = z + 1 := by omega
      have HR := Lib.hid hR
      have HD := Lib.hid hD
      have HO := Lib.hid ho
      clear hR hD ho hi
      go_wp2_with fail
      refine (sSift g n cap z m a d' wr HD.out (by omega) (by omega) hc hm hm2 (by omega)).mono ?_
      rintro e w1 ⟨rfl, hD1, ho1⟩
      have HD1 := Lib.hid hD1
      have HO1 := Lib.hid (HO.out.trans ho1)
      have HR1 := Lib.hid (show heapBuild ltU m a z (siftDown ltU m a z d') = heapBuild ltU m a K d from HR.out)
      clear hD1 ho1
      go_wp2_with fail
      go_roundw
      case rel => exact ⟨z, (z : Int) - 1, _, by omega, by omega, by go_num, HD1.out, by rw [sift_size]; exact hs, HR1.out, HO1.out⟩
      case measure => first | (simp [intOf]; done) | (simp [intOf]; omega)
    · obtain rfl : k = 0 := by omega
      have HR := Lib.hid (show d' = heapBuild ltU m a K d from hR)
      have HD := Lib.hid hD
      have HO := Lib.hid ho
      clear hR hD ho
      go_upto_region 8 with (fail)
      go_loopw [10] (fun s wr2 => ∃ (k : Nat) (i : Int) (e' : Array Int), k ≤ m ∧ i + 1 = k ∧ s = .int .i64 i ∧ DAt wr2 g e' ∧ e'.size = d.size ∧ heapPop ltU a k e' = heapPop ltU a m d' ∧ Off (· = g) w wr2) (fun s _ => (intOf s + 1).toNat)
      case atStart => exact ⟨m, (m : Int) - 1, d', by omega, by omega, by go_num, HD.out, hs, rfl, HO.out⟩
      case round =>
        obtain ⟨k, i, e', hk2, hi2, rfl, hE, hs2, hR2, ho2⟩ := hrel
        by_cases hi0 : 0 ≤ i
        · obtain ⟨z, rfl⟩ := Int.eq_ofNat_of_zero_le hi0
          obtain rfl : k = z + 1 := by omega
          obtain ⟨az, e3⟩ : ∃ az : Nat, (a : Int) + (z : Int) = (az : Int) := ⟨a + z, by omega⟩
          have haz : a + z = az := by omega
          rcases (show a = az ∨ a < az by omega) with hza | hza
          · subst hza
            have c1 := hE.c a (by omega)
            have c2 := hE.c a (by omega)
            have f1 := hE.f a (by omega)
            have f2 := hE.f a (by omega)
            have E3 := Lib.hid ((hE.swap a a (by omega) (by omega)).kept (w' := ((wr.setCell ⟨g, a, none⟩ (.int .u32 e'[a]!)).setCell ⟨g, a, none⟩ (.int .u32 e'[a]!)).drew) rfl (Nat.le_refl _))
            have O3 := Lib.hid ((ho2.trans (off_swap wr g a a (.int .u32 e'[a]!) (.int .u32 e'[a]!))).trans (off_drew _))
            have HR2 := Lib.hid (show heapPop ltU a z (siftDown ltU z a 0 (swp e' a a)) = heapPop ltU a m d' by rw [← hR2]; show _ = heapPop ltU a z (siftDown ltU z a 0 (swp e' a (a + z))); rw [haz])
            clear hR2 hE ho2 hi2 haz
            go_wp2_with fail
            go_region
            have hsw := swp_size e' a a
            go_wp2_with fail
            refine (sSift g n cap 0 z a (swp e' a a) _ E3.out (by rw [swp_size]; omega) (by rw [swp_size]; omega) hc hm hm2 (by omega)).mono ?_
            rintro e w1 ⟨rfl, hD1, ho1⟩
            have HD1 := Lib.hid hD1
            have HO1 := Lib.hid (O3.out.trans ho1)
            clear hD1 ho1
            go_wp2_with fail
            go_roundw
            case rel => exact ⟨z, (z : Int) - 1, _, by omega, by omega, by go_num, HD1.out, by rw [sift_size, swp_size]; exact hs2, HR2.out, HO1.out⟩
            case measure => first | (simp [intOf]; done) | (simp [intOf]; omega)
          · skip
            have c1 := hE.c a (by omega)
            have c2 := hE.c az (by omega)
            have f1 := hE.f a (by omega)
            have f2 := hE.f az (by omega)
            have E3 := Lib.hid ((hE.swap a az (by omega) (by omega)).kept (w' := ((wr.setCell ⟨g, a, none⟩ (.int .u32 e'[az]!)).setCell ⟨g, az, none⟩ (.int .u32 e'[a]!)).drew) rfl (Nat.le_refl _))
            have O3 := Lib.hid ((ho2.trans (off_swap wr g a az (.int .u32 e'[az]!) (.int .u32 e'[a]!))).trans (off_drew _))
            have HR2 := Lib.hid (show heapPop ltU a z (siftDown ltU z a 0 (swp e' a az)) = heapPop ltU a m d' by rw [← hR2, ← haz]; rfl)
            clear hR2 hE ho2 haz hi2
            go_wp2_with fail
            go_region
            have hsw := swp_size e' a az
            go_wp2_with fail
            refine (sSift g n cap 0 z a (swp e' a az) _ E3.out (by rw [swp_size]; omega) (by rw [swp_size]; omega) hc hm hm2 (by omega)).mono ?_
            rintro e w1 ⟨rfl, hD1, ho1⟩
            have HD1 := Lib.hid hD1
            have HO1 := Lib.hid (O3.out.trans ho1)
            clear hD1 ho1
            go_wp2_with fail
            go_roundw
            case rel => exact ⟨z, (z : Int) - 1, _, by omega, by omega, by go_num, HD1.out, by rw [sift_size, swp_size]; exact hs2, HR2.out, HO1.out⟩
            case measure => first | (simp [intOf]; done) | (simp [intOf]; omega)
        · obtain rfl : k = 0 := by omega
          have HX := Lib.hid (show e' = heapSort ltU d a b by rw [HH.out, ← HR.out]; exact hR2)
          have HE := Lib.hid hE
          clear hR2 hE
          go_wp2_with fail
          go_end0
          exact ⟨rfl, by rw [← HX.out]; exact HE.out, ho2⟩
/-- The counter of swaps. -/
def SwAt (w : World) (q : Nat) (s : Int) : Prop := w.heap[q]? = some (.cells #[.int .i64 s] 3 (0, 0))
theorem sOrder2 (g n cap a b s q : Nat) (d : Array Int) (w : World) (h : DAt w g d) (hs : SwAt w q s) (ha : a < d.size) (hb : b < d.size) (hn : d.size = n) (hc : n ≤ cap) (hm : cap ≤ 9223372036854775807) (hs2 : s < 1000) :
    Calls Try.prog 103 #[.slice (some ⟨g, 0, none⟩) n cap, .int .i64 a, .int .i64 b, .pointer (some ⟨q, 0, none⟩)] w
      fun e w' => e = .returned (.tuple #[.int .i64 (order2 ltU d a b s).1, .int .i64 (order2 ltU d a b s).2.1]) ∧ SwAt w' q (order2 ltU d a b s).2.2 ∧ Off (· = q) w w' := by
  have c1 := h.c a ha
  have c2 := h.c b hb
  have hl := h.lt
  have hg := gcell
  cases hq : ltU d[b]! d[a]!
  · have CL := Lib.hid (fun w' => sLessB _ _ _ hq w')
    rw [show order2 ltU d a b s = (a, b, s) by unfold order2; rw [hq]; rfl]
    clear hq
    go_enter Try.func103, Try.ntmps103
    go_wp2_with fail
    refine wp_region_quiet_below (by kernel_rfl) (by kernel_rfl) ?_
    repeat (go_big_quiet_step (first | (go_at_call 82; exact Calls.regrown_of (CL.out _))))
    refine wpQuiet_nil ?_
    intro _ hw'
    obtain ⟨⟨dq, osq⟩, hw''⟩ := hw'
    subst hw''
    have hb1 := below_regrown w dq osq
    go_wp2_with fail
    go_ret2
    exact ⟨rfl, blk_below hb1 hs (lt_of_block hs), Off.ofBelow hb1⟩
  · have CL := Lib.hid (fun w' => sLessB _ _ _ hq w')
    rw [show order2 ltU d a b s = (b, a, s + 1) by unfold order2; rw [hq]; rfl]
    clear hq
    go_enter Try.func103, Try.ntmps103
    go_wp2_with fail
    refine wp_region_quiet_below (by kernel_rfl) (by kernel_rfl) ?_
    repeat (go_big_quiet_step (first | (go_at_call 82; exact Calls.regrown_of (CL.out _))))
    refine wpQuiet_nil ?_
    intro _ hw'
    obtain ⟨⟨dq, osq⟩, hw''⟩ := hw'
    subst hw''
    have hb1 := below_regrown w dq osq
    have hS : SwAt (grow (redrawn w dq) osq) q s := blk_below hb1 hs (lt_of_block hs)
    have c3 := blk_cell hS 0
    have f3 := blk_free hS 0
    simp only [List.getElem?_toArray, List.getElem?_cons_zero] at c3
    have HS := Lib.hid (show SwAt ((grow (redrawn w dq) osq).setCell ⟨q, 0, none⟩ (.int .i64 ((s : Int) + 1))) q ((s + 1 : Nat) : Int) by unfold SwAt; rw [blk_set hS]; simp)
    clear hg
    go_wp2_with fail
    go_ret2
    exact ⟨rfl, HS.out, (Off.ofBelow hb1).trans (off_set _ _ _ _)⟩
end Go.Proofs.Ytafegmmcgghgaaa.B
