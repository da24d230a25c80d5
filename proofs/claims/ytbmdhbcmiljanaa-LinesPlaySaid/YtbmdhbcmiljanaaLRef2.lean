/- The document's own answers of layer 4: Bits, Least, Load, Store. -/
import Derived.Test.YtbmdhbcmiljanaaLRef
namespace Go.Proofs.Ytbmdhbcmiljanaa.B
set_option linter.unusedVariables false
set_option linter.unusedSimpArgs false
open Go.ChangeShapes Go.WideShapes Go.RowKit Go.Sort
/-- The first k truths, else false. -/
def upto (f : Nat → Bool) (k i : Nat) : Bool := decide (i < k) && f i
theorem upto_zero (f : Nat → Bool) : bl (upto f 0) 32 = bl (fun _ => false) 32 := bl_congr _ _ _ fun i _ => by unfold upto; simp
theorem upto_full (f : Nat → Bool) : bl (upto f 32) 32 = bl f 32 := bl_congr _ _ _ fun i hi => by unfold upto; simp [hi]
theorem upto_next (f : Nat → Bool) (k : Nat) : (bl (upto f k) 32).set k (.bool (f k)) = bl (upto f (k + 1)) 32 := by
  rw [bl_set]
  refine bl_congr _ _ _ fun i hi => ?_
  unfold upto
  by_cases e : i = k
  · rw [if_pos e, e, decide_eq_true (by omega)]; simp
  · rw [if_neg e]
    by_cases h : i < k
    · rw [decide_eq_true h, decide_eq_true (by omega)]
    · rw [decide_eq_false h, decide_eq_false (by omega)]
theorem set_arr (l : List Value) (k : Nat) (v : Value) : l.toArray.setIfInBounds k v = (l.set k v).toArray := by simp
theorem upto_store {w : World} {b : Nat} {f : Nat → Bool} {t : TypeId} (k : Nat) (h : w.heap[b]? = some (.cells (bl (upto f k) 32).toArray t (0, 0))) : (w.setCell ⟨b, k, none⟩ (.bool (f k))).heap[b]? = some (.cells (bl (upto f (k + 1)) 32).toArray t (0, 0)) := by
  rw [blk_set h, set_arr, upto_next]
theorem zeros25 : (#[.bool false, .bool false, .bool false, .bool false, .bool false, .bool false, .bool false, .bool false, .bool false, .bool false, .bool false, .bool false, .bool false, .bool false, .bool false, .bool false, .bool false, .bool false, .bool false, .bool false, .bool false, .bool false, .bool false, .bool false, .bool false, .bool false, .bool false, .bool false, .bool false, .bool false, .bool false, .bool false] : Array Value) = (bl (fun _ => false) 32).toArray := rfl
set_option maxHeartbeats 1600000 in
theorem rBits (n : Int) (w : World) (n0 : 0 ≤ n) (n1 : n < 4294967296) :
    Calls Try.prog 9 #[.int .u32 n] w fun e w' => e = .returned (.agg (bl (bit n) 32).toArray) ∧ Below w.heap.size w w' := by
  go_enter Try.func9, Try.ntmps9
  go_wp2_with fail
  rw [zeros25]
  have h0 := b2_0 w (.cells (bl (fun _ => false) 32).toArray 25) (.cells (bl (fun _ => false) 32).toArray 25)
  have h1 := b2_1 w (.cells (bl (fun _ => false) 32).toArray 25) (.cells (bl (fun _ => false) 32).toArray 25)
  have hb : Below w.heap.size w ((w.alloc (.cells (bl (fun _ => false) 32).toArray 25)).alloc (.cells (bl (fun _ => false) 32).toArray 25)) := trA (trA (tr0 w) _) _
  generalize ((w.alloc (.cells (bl (fun _ => false) 32).toArray 25)).alloc (.cells (bl (fun _ => false) 32).toArray 25)) = W at *
  have H0 := Lib.hid h0
  have H1 := Lib.hid h1
  clear h0 h1
  go_loopw [4] (fun i wr => ∃ k : Nat, k ≤ 32 ∧ i = .int .i64 k ∧ wr.heap[w.heap.size]? = some (.cells (bl (fun _ => false) 32).toArray 25 (0, 0)) ∧ wr.heap[w.heap.size + 1]? = some (.cells (bl (upto (bit n) k) 32).toArray 25 (0, 0)) ∧ Below w.heap.size w wr) (fun i _ => 32 - (intOf i).toNat)
  case atStart => exact ⟨0, by omega, rfl, H0.out, by rw [upto_zero]; exact H1.out, hb⟩
  case round =>
    clear hb
    obtain ⟨k, hk, rfl, h0, h1, hb⟩ := hrel
    by_cases hlt : k < 32
    · have hc := bl_cell h1 k hlt
      have hf := blk_free h1 k
      have H2 := Lib.hid (upto_store k h1)
      have H0 := Lib.hid (blk_else h0 (w.heap.size + 1) k (.bool (bit n k)) (by omega))
      have hB := hb.setCell (p := ⟨w.heap.size + 1, k, none⟩) (by simp) (.bool (bit n k))
      clear h0 h1
      go_wp2_with (go_at_call 23; refine (Bit _ _ _ (by omega) (by omega) (by omega) (by omega)).mono ?_; rintro e w' ⟨rfl, rfl⟩)
      go_roundw
      case rel => exact ⟨k + 1, by omega, by go_num, H0.out, H2.out, hB⟩
      case measure => simp [intOf]; omega
    · obtain rfl : k = 32 := by omega
      rw [upto_full] at h1
      go_wp2_with (first | (refine load25 rfl (.tmp 3) rfl _ _ rfl _ h1 (part_all _) ?_) | (refine store25 rfl (.tmp 2) (.tmp 15) rfl _ _ rfl _ rfl h0 (by simp [bl_len]) ?_))
      refine bodyPost_ret (v := .agg (bl (bit n) 32).toArray) ?_ rfl ⟨rfl, below_setRow hb _ (Nat.le_refl _)⟩
      exact results_cell_one Try.results9 _ _ _ 0 _ (bl (bit n) 32) rfl (row_set _ h0) Try.underlying25 rfl (by rw [bl_len]; exact i25) (by rw [spliced_all _ _ (by simp [bl_len])]; exact part_all _)
theorem rLeast (f g : Nat → Bool) (w : World) :
    Calls Try.prog 27 #[.agg (lcs f g).toArray] w fun e w' => e = .returned (.int .i64 (least fun i => f i && g i)) ∧ Below w.heap.size w w' := by
  go_enter Try.func27, Try.ntmps27
  go_wp2_with fail
  have hB := blk_new w (.cells (lcs f g).toArray 27)
  have hb : Below w.heap.size w (w.alloc (.cells (lcs f g).toArray 27)) := trA (tr0 w) _
  generalize (w.alloc (.cells (lcs f g).toArray 27)) = W at *
  have HB := Lib.hid hB
  clear hB
  go_loop [3] (fun i => ∃ k : Nat, k ≤ 32 ∧ i = .int .i64 k ∧ noneB (fun i => f i && g i) k) (fun i => 32 - (intOf i).toNat)
  case atStart => exact ⟨0, by omega, rfl, noneB_start _⟩
  case round =>
    obtain ⟨k, hk, rfl, hn⟩ := hrel
    by_cases hlt : k < 32
    · have hc0 := lcs_cellL HB.out k hlt
      have hc1 := lcs_cellR HB.out k hlt
      cases hf : f k
      · have HN := Lib.hid (noneB_next _ k hn (by simp [hf]))
        rw [hf] at hc0
        clear hf hn
        go_wp2_with fail
        go_round
        case rel => exact ⟨k + 1, by omega, by go_num, HN.out⟩
        case measure => simp [intOf]; omega
      · cases hg : g k
        · have HN := Lib.hid (noneB_next _ k hn (by simp [hg]))
          rw [hf] at hc0
          rw [hg] at hc1
          clear hf hg hn
          go_wp2_with fail
          go_round
          case rel => exact ⟨k + 1, by omega, by go_num, HN.out⟩
          case measure => simp [intOf]; omega
        · have HN := Lib.hid (least_some (fun i => f i && g i) k hn hlt (by simp [hf, hg]))
          rw [hf] at hc0
          rw [hg] at hc1
          clear hf hg hn
          go_wp2_with fail
          go_ret
          exact ⟨ret_int HN.out.symm, hb⟩
    · have HN := Lib.hid (least_none _ k hn (by omega))
      go_wp2_with fail
      go_ret
      exact ⟨ret_int HN.out.symm, hb⟩
theorem rLawWord (f g : Nat → Bool) (w : World) :
    Calls Try.prog 17 #[.agg (lcs f g).toArray] w fun e w' => e = .returned (.int .u32 (ob f 32)) ∧ Below w.heap.size w w' := by
  go_enter Try.func17, Try.ntmps17
  have hB := blk_new w (.cells (lcs f g).toArray 27)
  have hb : Below w.heap.size w (w.alloc (.cells (lcs f g).toArray 27)) := trA (tr0 w) _
  have HB := Lib.hid hB
  clear hB
  go_wp2_with (refine load25 rfl (.tmp 3) rfl _ _ rfl f HB.out (lcs_partL f g) ?_)
  refine (rWord f _).mono ?_
  rintro e w1 ⟨rfl, hb1⟩
  go_wp2_with fail
  go_ret
  exact ⟨rfl, tr hb hb1⟩
/-- What Load tells. -/
def rVal (f g : Nat → Bool) (o : Int) : Int := if lErr o = 0 then (if o = 0 then ob f 32 else if o = 4 then ob g 32 else ob (fun i => f i && g i) 32) else 0
set_option maxHeartbeats 3200000 in
theorem rLoad (f g : Nat → Bool) (o : Int) (w : World) (o0 : 0 ≤ o) (o1 : o < 4294967296) :
    Calls Try.prog 10 #[.agg (lcs f g).toArray, .int .u32 o] w fun e w' => e = .returned (.tuple #[.int .u32 (rVal f g o), .int .i64 (lErr o)]) ∧ Below w.heap.size w w' := by
  cases h4 : (o % 4 != 0)
  · go_enter Try.func10, Try.ntmps10
    have hb := trA (trA (tr0 w) (.cells (lcs f g).toArray 27)) (.cells (bl (fun _ => false) 32).toArray 25)
    go_wp2_with fail
    rw [zeros25]
    have h0 := b2_0 w (.cells (lcs f g).toArray 27) (.cells (bl (fun _ => false) 32).toArray 25)
    have h1 := b2_1 w (.cells (lcs f g).toArray 27) (.cells (bl (fun _ => false) 32).toArray 25)
    generalize ((w.alloc (.cells (lcs f g).toArray 27)).alloc (.cells (bl (fun _ => false) 32).toArray 25)) = W at *
    have H0 := Lib.hid h0
    have H1 := Lib.hid h1
    clear h0 h1
    go_loopw [7] (fun i wr => ∃ k : Nat, k ≤ 32 ∧ i = .int .i64 k ∧ wr.heap[w.heap.size]? = some (.cells (lcs f g).toArray 27 (0, 0)) ∧ wr.heap[w.heap.size + 1]? = some (.cells (bl (upto (fun i => f i && g i) k) 32).toArray 25 (0, 0)) ∧ Below w.heap.size w wr) (fun i _ => 32 - (intOf i).toNat)
    case atStart => exact ⟨0, by omega, rfl, H0.out, by rw [upto_zero]; exact H1.out, hb⟩
    case round =>
      clear hb
      obtain ⟨k, hk, rfl, h0, h1, hb⟩ := hrel
      by_cases hlt : k < 32
      · have hc := bl_cell h1 k hlt
        have hf := blk_free h1 k
        have hc0 := lcs_cellL h0 k hlt
        have hc1 := lcs_cellR h0 k hlt
        have H2 := Lib.hid (upto_store k h1)
        have H0 := Lib.hid (blk_else h0 (w.heap.size + 1) k (.bool (f k && g k)) (by omega))
        have hB := hb.setCell (p := ⟨w.heap.size + 1, k, none⟩) (by simp) (.bool (f k && g k))
        clear h0 h1
        cases hfk : f k
        all_goals
          rw [hfk] at hc0 H2 H0 hB
          cases hgk : g k
          all_goals
            rw [hgk] at hc1 H2 H0 hB
            clear hfk hgk
            go_wp2_with fail
            go_roundw
            case rel => exact ⟨k + 1, by omega, by go_num, H0.out, H2.out, hB⟩
            case measure => simp [intOf]; omega
      · obtain rfl : k = 32 := by omega
        rw [upto_full] at h1
        have hm : lErr o = 0 ∨ lErr o ≠ 0 := by omega
        rcases hm with he | he
        · rcases lErr_zero o0 he with rfl | rfl | rfl
          · go_wp2_with (refine load25 rfl (.tmp 30) rfl _ _ rfl f h0 (lcs_partL f g) ?_)
            refine (rWord f _).mono ?_
            rintro e w1 ⟨rfl, hb1⟩
            go_wp2_with fail
            go_ret2
            exact ⟨rfl, tr hb hb1⟩
          · go_wp2_with (refine load25 rfl (.tmp 35) rfl _ _ rfl g h0 (lcs_partR f g) ?_)
            refine (rWord g _).mono ?_
            rintro e w1 ⟨rfl, hb1⟩
            go_wp2_with fail
            go_ret2
            exact ⟨rfl, tr hb hb1⟩
          · go_wp2_with (refine load25 rfl (.tmp 6) rfl _ _ rfl _ h1 (part_all _) ?_)
            refine (rWord _ _).mono ?_
            rintro e w1 ⟨rfl, hb1⟩
            go_wp2_with fail
            go_ret2
            exact ⟨rfl, tr hb hb1⟩
        · have hv : rVal f g o = 0 := by unfold rVal; rw [if_neg he]
          have h10 : lErr o = 10 := by
            unfold lErr at he ⊢; rw [h4] at he ⊢; simp at he ⊢; omega
          have n0 : (o == 0) = false := by simp; rintro rfl; exact he rfl
          have n4 : (o == 4) = false := by simp; rintro rfl; exact he rfl
          have n8 : (o == 8) = false := by simp; rintro rfl; exact he rfl
          have HV := Lib.hid hv
          have HE := Lib.hid h10
          clear hv h10 he
          go_wp2_with fail
          go_ret2
          exact ⟨by rw [HV.out, HE.out]; rfl, hb⟩
  · have he : lErr o = 11 := by unfold lErr; rw [h4]; rfl
    have hv : rVal f g o = 0 := by unfold rVal; rw [if_neg (by omega)]
    rw [hv, he]
    clear hv he
    go_enter Try.func10, Try.ntmps10
    go_wp2_with fail
    go_ret2
    exact ⟨rfl, trA (tr0 w) _⟩
theorem zeros27 : (#[.bool false, .bool false, .bool false, .bool false, .bool false, .bool false, .bool false, .bool false, .bool false, .bool false, .bool false, .bool false, .bool false, .bool false, .bool false, .bool false, .bool false, .bool false, .bool false, .bool false, .bool false, .bool false, .bool false, .bool false, .bool false, .bool false, .bool false, .bool false, .bool false, .bool false, .bool false, .bool false, .bool false, .bool false, .bool false, .bool false, .bool false, .bool false, .bool false, .bool false, .bool false, .bool false, .bool false, .bool false, .bool false, .bool false, .bool false, .bool false, .bool false, .bool false, .bool false, .bool false, .bool false, .bool false, .bool false, .bool false, .bool false, .bool false, .bool false, .bool false, .bool false, .bool false, .bool false, .bool false] : Array Value) = (lcs (fun _ => false) (fun _ => false)).toArray := rfl
set_option maxRecDepth 100000 in
set_option maxHeartbeats 1600000 in
/-- Store, where the mask is not written. -/
theorem rStoreNo (f g : Nat → Bool) (o v : Int) (w : World) (o0 : 0 ≤ o) (o1 : o < 4294967296) (h4 : o ≠ 4) :
    Calls Try.prog 12 #[.agg (lcs f g).toArray, .int .u32 o, .int .u32 v] w fun e w' => e = .returned (.tuple #[.agg (lcs f g).toArray, .int .i64 (sErr o)]) ∧ Below w.heap.size w w' := by
  have n4 : (o == 4) = false := by simpa using h4
  have n4' : (o != 4) = true := by simpa using h4
  go_enter Try.func12, Try.ntmps12
  have hb := trA (trA (tr0 w) (.cells (lcs f g).toArray 27)) (.cells (lcs (fun _ => false) (fun _ => false)).toArray 27)
  have h0 := b2_0 w (.cells (lcs f g).toArray 27) (.cells (lcs (fun _ => false) (fun _ => false)).toArray 27)
  have h1 := b2_1 w (.cells (lcs f g).toArray 27) (.cells (lcs (fun _ => false) (fun _ => false)).toArray 27)
  go_wp2_with (refine load27 rfl (.tmp 3) rfl _ rfl f g (b2_0 w _ _) ?_)
  rw [zeros27]
  generalize (w.alloc (.cells (lcs f g).toArray 27)).alloc (.cells (lcs (fun _ => false) (fun _ => false)).toArray 27) = W at *
  have hld := rLoad f g o W o0 o1
  have hH := Lib.hid h0
  have hH1 := Lib.hid h1
  clear h0 h1
  by_cases he : lErr o = 0
  · rw [he] at hld
    have HS := Lib.hid (show sErr o = 12 by unfold sErr; rw [if_pos he, if_neg h4])
    clear he
    refine hld.mono ?_
    rintro e W1 ⟨rfl, hb1⟩
    have h0 := blk_below hb1 hH.out (lt_of_block hH.out)
    have h1 := blk_below hb1 hH1.out (lt_of_block hH1.out)
    have hbw := tr hb hb1
    clear hb hb1 hld
    go_wp2_with (first | (refine load27 rfl (.tmp 3) rfl _ rfl f g h0 ?_) | (refine store27 rfl (.tmp 6) (.tmp 27) rfl _ rfl f g rfl h1 (by simp [lcs_len]) ?_))
    refine bodyPost_ret (v := .tuple #[.agg (lcs f g).toArray, .int .i64 12]) ?_ rfl ⟨by rw [HS.out], below_setRow hbw _ (by simp)⟩
    exact results_cell_slot Try.results12 _ _ _ 0 _ (lcs f g) _ rfl rfl (row_set _ h1) Try.underlying27 rfl (by rw [lcs_len]; exact i27) (part_all _)
  · have hn : (lErr o == 0) = false := by simpa using he
    have HS := Lib.hid (show sErr o = lErr o by unfold sErr; rw [if_neg he])
    clear he
    refine hld.mono ?_
    rintro e W1 ⟨rfl, hb1⟩
    have h0 := blk_below hb1 hH.out (lt_of_block hH.out)
    have h1 := blk_below hb1 hH1.out (lt_of_block hH1.out)
    have hbw := tr hb hb1
    clear hb hb1 hld
    go_wp2_with (first | (refine load27 rfl (.tmp 3) rfl _ rfl f g h0 ?_) | (refine store27 rfl (.tmp 6) (.tmp 27) rfl _ rfl f g rfl h1 (by simp [lcs_len]) ?_))
    refine bodyPost_ret (v := .tuple #[.agg (lcs f g).toArray, .int .i64 (lErr o)]) ?_ rfl ⟨by rw [HS.out], below_setRow hbw _ (by simp)⟩
    exact results_cell_slot Try.results12 _ _ _ 0 _ (lcs f g) _ rfl rfl (row_set _ h1) Try.underlying27 rfl (by rw [lcs_len]; exact i27) (part_all _)
theorem lErr4 : lErr 4 = 0 := rfl
theorem sErr4 : sErr 4 = 0 := rfl
set_option maxRecDepth 100000 in
set_option maxHeartbeats 1600000 in
/-- Store, of the mask. -/
theorem rStore4 (f g : Nat → Bool) (v : Int) (w : World) (v0 : 0 ≤ v) (v1 : v < 4294967296) :
    Calls Try.prog 12 #[.agg (lcs f g).toArray, .int .u32 4, .int .u32 v] w fun e w' => e = .returned (.tuple #[.agg (lcs f (bit v)).toArray, .int .i64 0]) ∧ Below w.heap.size w w' := by
  go_enter Try.func12, Try.ntmps12
  have hb := trA (trA (tr0 w) (.cells (lcs f g).toArray 27)) (.cells (lcs (fun _ => false) (fun _ => false)).toArray 27)
  have h0 := b2_0 w (.cells (lcs f g).toArray 27) (.cells (lcs (fun _ => false) (fun _ => false)).toArray 27)
  have h1 := b2_1 w (.cells (lcs f g).toArray 27) (.cells (lcs (fun _ => false) (fun _ => false)).toArray 27)
  go_wp2_with (refine load27 rfl (.tmp 3) rfl _ rfl f g (b2_0 w _ _) ?_)
  rw [zeros27]
  generalize (w.alloc (.cells (lcs f g).toArray 27)).alloc (.cells (lcs (fun _ => false) (fun _ => false)).toArray 27) = W at *
  have hld := rLoad f g 4 W (by omega) (by omega)
  rw [lErr4] at hld
  have hH := Lib.hid h0
  have hH1 := Lib.hid h1
  clear h0 h1
  refine hld.mono ?_
  rintro e W1 ⟨rfl, hb1⟩
  have h0 := blk_below hb1 hH.out (lt_of_block hH.out)
  have h1 := blk_below hb1 hH1.out (lt_of_block hH1.out)
  have hbw := tr hb hb1
  clear hb hb1 hld hH hH1
  go_wp2_with fail
  refine (rBits v _ v0 v1).mono ?_
  rintro e W2 ⟨rfl, hb2⟩
  have g0 := blk_below hb2 h0 (lt_of_block h0)
  have g1 := blk_below hb2 h1 (lt_of_block h1)
  have hbw2 := tr hbw hb2
  clear hb2 hbw h0 h1
  have k0 := row_set (spliced (lcs f g).toArray 32 (bl (bit v) 32)) g0
  have k1 := row_else w.heap.size (spliced (lcs f g).toArray 32 (bl (bit v) 32)) g1 (by omega)
  rw [lcs_setR] at k0
  have K0 := Lib.hid k0
  have K1 := Lib.hid k1
  clear k0 k1
  go_wp2_with (first | (refine store25 rfl (.tmp 26) (.tmp 25) rfl _ _ rfl (bit v) rfl g0 (by simp [lcs_len]) ?_) | (refine load27 rfl (.tmp 3) rfl _ rfl f (bit v) K0.out ?_) | (refine store27 rfl (.tmp 6) (.tmp 27) rfl _ rfl f (bit v) rfl K1.out (by simp [lcs_len]) ?_))
  refine bodyPost_ret (v := .tuple #[.agg (lcs f (bit v)).toArray, .int .i64 0]) ?_ rfl ⟨rfl, below_setRow (below_setRow hbw2 _ (by simp)) _ (by simp)⟩
  exact results_cell_slot Try.results12 _ _ _ 0 _ (lcs f (bit v)) _ rfl rfl (row_set _ K1.out) Try.underlying27 rfl (by rw [lcs_len]; exact i27) (part_all _)
end Go.Proofs.Ytbmdhbcmiljanaa.B
