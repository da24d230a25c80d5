/- Several texts in one: The document's own answers of layer 4: Bits, Least, Load, Store. The document's board: a word loaded. -/
import Derived.Test.YtcgmnjajodegmaaGreatZTap
import Derived.Test.YtcgmnjajodegmaaGreatZTar
import Derived.Test.YtcgmnjajodegmaaGreatZTbc
import Derived.Test.YtcgmnjajodegmaaGreatZTbd
import Derived.Test.YtcgmnjajodegmaaGreatZTbe
import Derived.Test.YtcgmnjajodegmaaGreatZTbf
import Derived.Test.YtcgmnjajodegmaaGreatZTbg
set_option linter.unusedVariables false
set_option linter.unusedSimpArgs false
set_option maxRecDepth 100000
namespace Go.Proofs.YtcgmnjajodegmaaGreat.B
open Go.ChangeShapes Go.WideShapes Go.RowKit Go.Sort
theorem rLeast (f g : Nat -> Bool) (w : World) :
 Calls Tryz.prog 46 #[.agg (lcs f g).toArray] w fun e w' => e = .returned (.int .i64 (least fun i => f i && g i)) /\ Below w.heap.size w w' := by
 go_enter Tryz.func46, Tryz.ntmps46
 go_wp2_with fail
 have hB := blk_new w (.cells (lcs f g).toArray 99)
 have hb : Below w.heap.size w (w.alloc (.cells (lcs f g).toArray 99)) := trA (tr0 w) _
 generalize (w.alloc (.cells (lcs f g).toArray 99)) = W at *
 have HB := Hd hB
 clear hB
 go_loop [3] (fun i => ∃ k : Nat, k <= 32 /\ i = .int .i64 k /\ noneB (fun i => f i && g i) k) (fun i => 32 - (intOf i).toNat)
 case atStart => exact ⟨0, by omega, rfl, noneB_start _⟩
 case round =>
  obtain ⟨k, hk, rfl, hn⟩ := hrel
  by_cases hlt : k < 32
  . have hc0 := lcs_cellL HB.out k hlt
    have hc1 := lcs_cellR HB.out k hlt
    cases hf : f k
    . have HN := Hd (noneB_next _ k hn (by simp [hf]))
      rw [hf] at hc0
      clear hf hn
      go_wp2_with fail
      go_round
      case rel => exact ⟨k + 1, by omega, by go_num, HN.out⟩
      case measure => simp [intOf]; omega
    . cases hg : g k
      . have HN := Hd (noneB_next _ k hn (by simp [hg]))
        rw [hf] at hc0
        rw [hg] at hc1
        clear hf hg hn
        go_wp2_with fail
        go_round
        case rel => exact ⟨k + 1, by omega, by go_num, HN.out⟩
        case measure => simp [intOf]; omega
      . have HN := Hd (least_some (fun i => f i && g i) k hn hlt (by simp [hf, hg]))
        rw [hf] at hc0
        rw [hg] at hc1
        clear hf hg hn
        go_wp2_with fail
        go_ret
        exact ⟨ret_int HN.out.symm, hb⟩
  . have HN := Hd (least_none _ k hn (by omega))
    go_wp2_with fail
    go_ret
    exact ⟨ret_int HN.out.symm, hb⟩
def rVal (f g : Nat -> Bool) (o : Int) : Int := if lErr o = 0 then (if o = 0 then ob f 32 else if o = 4 then ob g 32 else ob (fun i => f i && g i) 32) else 0
set_option maxHeartbeats 3200000 in
theorem rLoad (f g : Nat -> Bool) (o : Int) (w : World) (o0 : 0 <= o) (o1 : o < 4294967296) :
 Calls Tryz.prog 94 #[.agg (lcs f g).toArray, .int .u32 o] w fun e w' => e = .returned (.tuple #[.int .u32 (rVal f g o), .int .i64 (lErr o)]) /\ Below w.heap.size w w' := by
 cases h4 : (o % 4 != 0)
 . go_enter Tryz.func94, Tryz.ntmps94
   have hb := trA (trA (tr0 w) (.cells (lcs f g).toArray 99)) (.cells (bl (fun _ => false) 32).toArray 40)
   go_wp2_with fail
   rw [zeros25]
   have h0 := b2_0 w (.cells (lcs f g).toArray 99) (.cells (bl (fun _ => false) 32).toArray 40)
   have h1 := b2_1 w (.cells (lcs f g).toArray 99) (.cells (bl (fun _ => false) 32).toArray 40)
   generalize ((w.alloc (.cells (lcs f g).toArray 99)).alloc (.cells (bl (fun _ => false) 32).toArray 40)) = W at *
   have H0 := Hd h0
   have H1 := Hd h1
   clear h0 h1
   go_loopw [7] (fun i wr => ∃ k : Nat, k <= 32 /\ i = .int .i64 k /\ wr.heap[w.heap.size]? = some (.cells (lcs f g).toArray 99 (0, 0)) /\ wr.heap[w.heap.size + 1]? = some (.cells (bl (upto (fun i => f i && g i) k) 32).toArray 40 (0, 0)) /\ Below w.heap.size w wr) (fun i _ => 32 - (intOf i).toNat)
   case atStart => exact ⟨0, by omega, rfl, H0.out, by rw [upto_zero]; exact H1.out, hb⟩
   case round =>
    clear hb
    obtain ⟨k, hk, rfl, h0, h1, hb⟩ := hrel
    by_cases hlt : k < 32
    . have hc := bl_cell h1 k hlt
      have hf := blk_free h1 k
      have hc0 := lcs_cellL h0 k hlt
      have hc1 := lcs_cellR h0 k hlt
      have H2 := Hd (upto_store k h1)
      have H0 := Hd (blk_else h0 (w.heap.size + 1) k (.bool (f k && g k)) (by omega))
      have hB := hb.setCell (p := ⟨w.heap.size + 1, k, none⟩) (by simp) (.bool (f k && g k))
      clear h0 h1
      cases hfk : f k
      all_goals
       rw [hfk] at hc0 H2 H0 hB
       cases hgk : g k
       all_goals
        rw [hgk] at hc1 H2 H0 hB
        clear hfk hgk
        go_wp2_with fail
        go_roundw
        case rel => exact ⟨k + 1, by omega, by go_num, H0.out, H2.out, hB⟩
        case measure => simp [intOf]; omega
    . obtain rfl : k = 32 := by omega
      rw [upto_full] at h1
      have hm : lErr o = 0 \/ lErr o ≠ 0 := by omega
      rcases hm with he | he
      . rcases lErr_zero o0 he with rfl | rfl | rfl
        . go_wp2_with (refine load25 rfl (.tmp 30) rfl _ _ rfl f h0 (lcs_partL f g) ?_)
          refine (rWord f _).mono ?_
          rintro e w1 ⟨rfl, hb1⟩
          go_wp2_with fail
          go_ret2
          exact ⟨rfl, tr hb hb1⟩
        . go_wp2_with (refine load25 rfl (.tmp 35) rfl _ _ rfl g h0 (lcs_partR f g) ?_)
          refine (rWord g _).mono ?_
          rintro e w1 ⟨rfl, hb1⟩
          go_wp2_with fail
          go_ret2
          exact ⟨rfl, tr hb hb1⟩
        . go_wp2_with (refine load25 rfl (.tmp 6) rfl _ _ rfl _ h1 (part_all _) ?_)
          refine (rWord _ _).mono ?_
          rintro e w1 ⟨rfl, hb1⟩
          go_wp2_with fail
          go_ret2
          exact ⟨rfl, tr hb hb1⟩
      . have hv : rVal f g o = 0 := by unfold rVal; rw [if_neg he]
        have h10 : lErr o = 10 := by
         unfold lErr at he ⊢; rw [h4] at he ⊢; simp at he ⊢; omega
        have n0 : (o == 0) = false := by simp; rintro rfl; exact he rfl
        have n4 : (o == 4) = false := by simp; rintro rfl; exact he rfl
        have n8 : (o == 8) = false := by simp; rintro rfl; exact he rfl
        have HV := Hd hv
        have HE := Hd h10
        clear hv h10 he
        go_wp2_with fail
        go_ret2
        exact ⟨by rw [HV.out, HE.out]; rfl, hb⟩
 . have he : lErr o = 11 := by unfold lErr; rw [h4]; rfl
   have hv : rVal f g o = 0 := by unfold rVal; rw [if_neg (by omega)]
   rw [hv, he]
   clear hv he
   go_enter Tryz.func94, Tryz.ntmps94
   go_wp2_with fail
   go_ret2
   exact ⟨rfl, trA (tr0 w) _⟩
theorem zeros27 : (#[.bool false, .bool false, .bool false, .bool false, .bool false, .bool false, .bool false, .bool false, .bool false, .bool false, .bool false, .bool false, .bool false, .bool false, .bool false, .bool false, .bool false, .bool false, .bool false, .bool false, .bool false, .bool false, .bool false, .bool false, .bool false, .bool false, .bool false, .bool false, .bool false, .bool false, .bool false, .bool false, .bool false, .bool false, .bool false, .bool false, .bool false, .bool false, .bool false, .bool false, .bool false, .bool false, .bool false, .bool false, .bool false, .bool false, .bool false, .bool false, .bool false, .bool false, .bool false, .bool false, .bool false, .bool false, .bool false, .bool false, .bool false, .bool false, .bool false, .bool false, .bool false, .bool false, .bool false, .bool false] : Array Value) = (lcs (fun _ => false) (fun _ => false)).toArray := rfl
set_option maxRecDepth 100000 in
set_option maxHeartbeats 1600000 in
theorem rStoreNo (f g : Nat -> Bool) (o v : Int) (w : World) (o0 : 0 <= o) (o1 : o < 4294967296) (h4 : o ≠ 4) :
 Calls Tryz.prog 100 #[.agg (lcs f g).toArray, .int .u32 o, .int .u32 v] w fun e w' => e = .returned (.tuple #[.agg (lcs f g).toArray, .int .i64 (sErr o)]) /\ Below w.heap.size w w' := by
 have n4 : (o == 4) = false := by simpa using h4
 have n4' : (o != 4) = true := by simpa using h4
 go_enter Tryz.func100, Tryz.ntmps100
 have hb := trA (trA (tr0 w) (.cells (lcs f g).toArray 99)) (.cells (lcs (fun _ => false) (fun _ => false)).toArray 99)
 have h0 := b2_0 w (.cells (lcs f g).toArray 99) (.cells (lcs (fun _ => false) (fun _ => false)).toArray 99)
 have h1 := b2_1 w (.cells (lcs f g).toArray 99) (.cells (lcs (fun _ => false) (fun _ => false)).toArray 99)
 go_wp2_with (refine load27 rfl (.tmp 3) rfl _ rfl f g (b2_0 w _ _) ?_)
 rw [zeros27]
 generalize (w.alloc (.cells (lcs f g).toArray 99)).alloc (.cells (lcs (fun _ => false) (fun _ => false)).toArray 99) = W at *
 have hld := rLoad f g o W o0 o1
 have hH := Hd h0
 have hH1 := Hd h1
 clear h0 h1
 by_cases he : lErr o = 0
 . rw [he] at hld
   have HS := Hd (show sErr o = 12 by unfold sErr; rw [if_pos he, if_neg h4])
   clear he
   refine hld.mono ?_
   rintro e W1 ⟨rfl, hb1⟩
   have h0 := blk_below hb1 hH.out (lt_of_block hH.out)
   have h1 := blk_below hb1 hH1.out (lt_of_block hH1.out)
   have hbw := tr hb hb1
   clear hb hb1 hld
   go_wp2_with (first | (refine load27 rfl (.tmp 3) rfl _ rfl f g h0 ?_) | (refine store27 rfl (.tmp 6) (.tmp 27) rfl _ rfl f g rfl h1 (by simp [lcs_len]) ?_))
   refine bodyPost_ret (v := .tuple #[.agg (lcs f g).toArray, .int .i64 12]) ?_ rfl ⟨by rw [HS.out], below_setRow hbw _ (by simp)⟩
   exact results_cell_slot Tryz.results100 _ _ _ 0 _ (lcs f g) _ rfl rfl (row_set _ h1) Tryz.underlying99 rfl (by rw [lcs_len]; exact i27) (part_all _)
 . have hn : (lErr o == 0) = false := by simpa using he
   have HS := Hd (show sErr o = lErr o by unfold sErr; rw [if_neg he])
   clear he
   refine hld.mono ?_
   rintro e W1 ⟨rfl, hb1⟩
   have h0 := blk_below hb1 hH.out (lt_of_block hH.out)
   have h1 := blk_below hb1 hH1.out (lt_of_block hH1.out)
   have hbw := tr hb hb1
   clear hb hb1 hld
   go_wp2_with (first | (refine load27 rfl (.tmp 3) rfl _ rfl f g h0 ?_) | (refine store27 rfl (.tmp 6) (.tmp 27) rfl _ rfl f g rfl h1 (by simp [lcs_len]) ?_))
   refine bodyPost_ret (v := .tuple #[.agg (lcs f g).toArray, .int .i64 (lErr o)]) ?_ rfl ⟨by rw [HS.out], below_setRow hbw _ (by simp)⟩
   exact results_cell_slot Tryz.results100 _ _ _ 0 _ (lcs f g) _ rfl rfl (row_set _ h1) Tryz.underlying99 rfl (by rw [lcs_len]; exact i27) (part_all _)
theorem lErr4 : lErr 4 = 0 := rfl
set_option maxRecDepth 100000 in
set_option maxHeartbeats 1600000 in
theorem rStore4 (f g : Nat -> Bool) (v : Int) (w : World) (v0 : 0 <= v) (v1 : v < 4294967296) :
 Calls Tryz.prog 100 #[.agg (lcs f g).toArray, .int .u32 4, .int .u32 v] w fun e w' => e = .returned (.tuple #[.agg (lcs f (bit v)).toArray, .int .i64 0]) /\ Below w.heap.size w w' := by
 go_enter Tryz.func100, Tryz.ntmps100
 have hb := trA (trA (tr0 w) (.cells (lcs f g).toArray 99)) (.cells (lcs (fun _ => false) (fun _ => false)).toArray 99)
 have h0 := b2_0 w (.cells (lcs f g).toArray 99) (.cells (lcs (fun _ => false) (fun _ => false)).toArray 99)
 have h1 := b2_1 w (.cells (lcs f g).toArray 99) (.cells (lcs (fun _ => false) (fun _ => false)).toArray 99)
 go_wp2_with (refine load27 rfl (.tmp 3) rfl _ rfl f g (b2_0 w _ _) ?_)
 rw [zeros27]
 generalize (w.alloc (.cells (lcs f g).toArray 99)).alloc (.cells (lcs (fun _ => false) (fun _ => false)).toArray 99) = W at *
 have hld := rLoad f g 4 W (by omega) (by omega)
 rw [lErr4] at hld
 have hH := Hd h0
 have hH1 := Hd h1
 clear h0 h1
 refine hld.mono ?_
 rintro e W1 ⟨rfl, hb1⟩
 have h0 := blk_below hb1 hH.out (lt_of_block hH.out)
 have h1 := blk_below hb1 hH1.out (lt_of_block hH1.out)
 have hbw := tr hb hb1
 clear hb hb1 hld hH hH1
 go_wp2_with fail
 refine (rBits v _ v0 v1).mono ?_
 rintro e W2 ⟨rfl, hb2⟩
 have g0 := blk_below hb2 h0 (lt_of_block h0)
 have g1 := blk_below hb2 h1 (lt_of_block h1)
 have hbw2 := tr hbw hb2
 clear hb2 hbw h0 h1
 have k0 := row_set (spliced (lcs f g).toArray 32 (bl (bit v) 32)) g0
 have k1 := row_else w.heap.size (spliced (lcs f g).toArray 32 (bl (bit v) 32)) g1 (by omega)
 rw [lcs_setR] at k0
 have K0 := Hd k0
 have K1 := Hd k1
 clear k0 k1
 go_wp2_with (first | (refine store25 rfl (.tmp 26) (.tmp 25) rfl _ _ rfl (bit v) rfl g0 (by simp [lcs_len]) ?_) | (refine load27 rfl (.tmp 3) rfl _ rfl f (bit v) K0.out ?_) | (refine store27 rfl (.tmp 6) (.tmp 27) rfl _ rfl f (bit v) rfl K1.out (by simp [lcs_len]) ?_))
 refine bodyPost_ret (v := .tuple #[.agg (lcs f (bit v)).toArray, .int .i64 0]) ?_ rfl ⟨rfl, below_setRow (below_setRow hbw2 _ (by simp)) _ (by simp)⟩
 exact results_cell_slot Tryz.results100 _ _ _ 0 _ (lcs f (bit v)) _ rfl rfl (row_set _ K1.out) Tryz.underlying99 rfl (by rw [lcs_len]; exact i27) (part_all _)
theorem val_wires (n c : Nat) (x : Bx) (o : Int) (m0 : 0 <= x.msk) (m1 : x.msk < 4294967296) : rVal (fH n c x) (bit x.msk) o = lVal (wires n c x) x.msk o := by
 have hw := wires_bounds n c x
 obtain ⟨b0, b1⟩ := and_bounds (wires n c x) x.msk hw.1 hw.2 m0 m1
 have : ob (fun i => fH n c x i && bit x.msk i) 32 = bits BinOp.and IntKind.u32 (wires n c x) x.msk := by
  obtain ⟨c0, c1⟩ := ob_bounds (fun i => fH n c x i && bit x.msk i) 32 (by omega)
  refine same_bits c0 c1 b0 b1 fun i hi => ?_
  unfold ob
  rw [bit_ofBits, decide_eq_true hi, Bool.true_and, bit_and (wires n c x) x.msk i hw.1 hw.2 m0 m1, bit_wires n c x i hi]
 unfold rVal lVal
 rw [ob_bit x.msk m0 m1, this]
 rfl
theorem yLoadOdd (n c : Nat) (x : Bx) (bk ev : Value) (a : Int) (w : World) (M : MV w c x bk ev) (ok : x.ok n c) (a0 : 0 <= a) (a1 : a < 4294967296) (h4 : a % 4 ≠ 0) (e : wh a = .odd) : Calls Tryz.prog 42 #[.agg (ml n x bk ev).toArray, .int .u32 a] w (fun e w' => e = .returned (.tuple #[.int .u32 (x.ldv n c a), .int .i64 (Bx.lde n c a)]) /\ Below w.heap.size w w') := by
 rw [show x.ldv n c a = 0 by unfold Bx.ldv; rw [e], show Bx.lde n c a = 11 by unfold Bx.lde; rw [e]]
 obtain ⟨gk, capk, rfl, hrk⟩ := M.k
 have HOK := Hd ok
 have hb := trA (tr0 w) (oM11 n x (.slice (some ⟨gk, 0, none⟩) c capk) ev)
 have HN := Hd (show NAt (w.alloc (oM11 n x (.slice (some ⟨gk, 0, none⟩) c capk) ev)) w.heap.size n x (.slice (some ⟨gk, 0, none⟩) c capk) ev from blk_new w _)
 have HM := Hd (M.below hb)
 have HB := Hd hb
 clear hb M hrk ok
 have HA := Hd (show 0 <= a /\ a < 4294967296 from ⟨a0, a1⟩)
 have q4 : (a % 4 != 0) = true := by simpa using h4
 clear h4
 go_enter Tryz.func42, Tryz.ntmps42
 go_upto_region 1 with (fail)
 rw [oM11_eq]
 generalize w.alloc (oM11 n x (.slice (some ⟨gk, 0, none⟩) c capk) ev) = W at *
 generalize hpn : w.heap.size = p at *
 have HPN := Hd hpn
 clear hpn
 go_wp2_with fail
 go_ret2
 exact ⟨rfl, by rw [HPN.out]; exact HB.out⟩
theorem yLoadNo (n c : Nat) (x : Bx) (bk ev : Value) (a : Int) (w : World) (M : MV w c x bk ev) (ok : x.ok n c) (a0 : 0 <= a) (a1 : a < 4294967296) (h4 : a % 4 = 0) (e : wh a = .no) : Calls Tryz.prog 42 #[.agg (ml n x bk ev).toArray, .int .u32 a] w (fun e w' => e = .returned (.tuple #[.int .u32 (x.ldv n c a), .int .i64 (Bx.lde n c a)]) /\ Below w.heap.size w w') := by
 rw [show x.ldv n c a = 0 by unfold Bx.ldv; rw [e], show Bx.lde n c a = 10 by unfold Bx.lde; rw [e]]
 have HFI := Hd (show fI a = (0, 0, false) by unfold fI; rw [e])
 obtain ⟨gk, capk, rfl, hrk⟩ := M.k
 have HOK := Hd ok
 have hb := trA (tr0 w) (oM11 n x (.slice (some ⟨gk, 0, none⟩) c capk) ev)
 have HN := Hd (show NAt (w.alloc (oM11 n x (.slice (some ⟨gk, 0, none⟩) c capk) ev)) w.heap.size n x (.slice (some ⟨gk, 0, none⟩) c capk) ev from blk_new w _)
 have HM := Hd (M.below hb)
 have HB := Hd hb
 clear hb M hrk ok
 have HA := Hd (show 0 <= a /\ a < 4294967296 from ⟨a0, a1⟩)
 have H4 := Hd h4
 go_enter Tryz.func42, Tryz.ntmps42
 go_upto_region 1 with (fail)
 rw [oM11_eq]
 generalize w.alloc (oM11 n x (.slice (some ⟨gk, 0, none⟩) c capk) ev) = W at *
 generalize hpn : w.heap.size = p at *
 have HPN := Hd hpn
 clear hpn
 go_wp2_with (go_at_call 88; refine (yFind a _ HA.out.1 HA.out.2 H4.out).mono ?_; rw [HFI.out]; rintro e w1 ⟨rfl, b1⟩; have HN := Hd (HN.out.below b1); have HM := Hd (HM.out.below b1); have HB := Hd (tr_at HPN.out HB.out b1); clear b1)
 go_ret2
 exact ⟨rfl, by rw [HPN.out]; exact HB.out⟩
set_option maxHeartbeats 1600000 in
theorem yLoad_cl (n c : Nat) (x : Bx) (bk ev : Value) (a : Int) (w : World) (M : MV w c x bk ev) (ok : x.ok n c) (a0 : 0 <= a) (a1 : a < 4294967296) (h4 : a % 4 = 0) (g0 : 33554432 <= a) (g1 : a < 33603584) (e : wh a = .cl (a - 33554432)) : Calls Tryz.prog 42 #[.agg (ml n x bk ev).toArray, .int .u32 a] w (fun e w' => e = .returned (.tuple #[.int .u32 (x.ldv n c a), .int .i64 (Bx.lde n c a)]) /\ Below w.heap.size w w') := by
 rw [show x.ldv n c a = cVal x.ti n x.D x.S (a - 33554432) by unfold Bx.ldv; rw [e], show Bx.lde n c a = cErr n (a - 33554432) by unfold Bx.lde; rw [e]]
 have HFI := Hd (show fI a = (0, a - 33554432, true) by unfold fI; rw [e])
 have O0 : 0 <= a - 33554432 := by omega
 have O1 : a - 33554432 < 4294967296 := by omega
 obtain ⟨gk, capk, rfl, hrk⟩ := M.k
 have HOK := Hd ok
 have hb := trA (tr0 w) (oM11 n x (.slice (some ⟨gk, 0, none⟩) c capk) ev)
 have HN := Hd (show NAt (w.alloc (oM11 n x (.slice (some ⟨gk, 0, none⟩) c capk) ev)) w.heap.size n x (.slice (some ⟨gk, 0, none⟩) c capk) ev from blk_new w _)
 have HM := Hd (M.below hb)
 have HB := Hd hb
 clear hb M hrk ok
 have HA := Hd (show 0 <= a /\ a < 4294967296 from ⟨a0, a1⟩)
 have H4 := Hd h4
 go_enter Tryz.func42, Tryz.ntmps42
 go_upto_region 1 with (fail)
 rw [oM11_eq]
 generalize w.alloc (oM11 n x (.slice (some ⟨gk, 0, none⟩) c capk) ev) = W at *
 generalize hpn : w.heap.size = p at *
 have HPN := Hd hpn
 clear hpn
 go_wp2_with (first | (go_at_call 88; refine (yFind a _ HA.out.1 HA.out.2 H4.out).mono ?_; rw [HFI.out]; rintro e w1 ⟨rfl, b1⟩; have HN := Hd (HN.out.below b1); have HM := Hd (HM.out.below b1); have HB := Hd (tr_at HPN.out HB.out b1); clear b1) | (refine nLoadC rfl (.tmp 23) rfl rfl HN.out ?_) | (go_at_call 89; refine (rcLoad (a - 33554432) x.ti n x.D x.S _ HOK.out.n8 HOK.out.d HOK.out.t0 HOK.out.t1 O0 O1).mono ?_; rintro e w3 ⟨rfl, b1⟩; have HN := Hd (HN.out.below b1); have HM := Hd (HM.out.below b1); have HB := Hd (tr_at HPN.out HB.out b1); clear b1))
 go_ret2
 exact ⟨rfl, by rw [HPN.out]; exact HB.out⟩
set_option maxHeartbeats 1600000 in
theorem yLoad_bk (n c : Nat) (x : Bx) (bk ev : Value) (a : Int) (w : World) (M : MV w c x bk ev) (ok : x.ok n c) (a0 : 0 <= a) (a1 : a < 4294967296) (h4 : a % 4 = 0) (g0 : 268500992 <= a) (g1 : a < 268501248) (e : wh a = .bk (a - 268500992)) : Calls Tryz.prog 42 #[.agg (ml n x bk ev).toArray, .int .u32 a] w (fun e w' => e = .returned (.tuple #[.int .u32 (x.ldv n c a), .int .i64 (Bx.lde n c a)]) /\ Below w.heap.size w w') := by
 rw [show x.ldv n c a = kVal c x.tm (a - 268500992) by unfold Bx.ldv; rw [e], show Bx.lde n c a = kLErr c (a - 268500992) by unfold Bx.lde; rw [e]]
 have HFI := Hd (show fI a = (1, a - 268500992, true) by unfold fI; rw [e])
 have O0 : 0 <= a - 268500992 := by omega
 have O1 : a - 268500992 < 4294967296 := by omega
 obtain ⟨gk, capk, rfl, hrk⟩ := M.k
 have HOK := Hd ok
 have hb := trA (tr0 w) (oM11 n x (.slice (some ⟨gk, 0, none⟩) c capk) ev)
 have HN := Hd (show NAt (w.alloc (oM11 n x (.slice (some ⟨gk, 0, none⟩) c capk) ev)) w.heap.size n x (.slice (some ⟨gk, 0, none⟩) c capk) ev from blk_new w _)
 have HM := Hd (M.below hb)
 have HB := Hd hb
 clear hb M hrk ok
 have HA := Hd (show 0 <= a /\ a < 4294967296 from ⟨a0, a1⟩)
 have H4 := Hd h4
 go_enter Tryz.func42, Tryz.ntmps42
 go_upto_region 1 with (fail)
 rw [oM11_eq]
 generalize w.alloc (oM11 n x (.slice (some ⟨gk, 0, none⟩) c capk) ev) = W at *
 generalize hpn : w.heap.size = p at *
 have HPN := Hd hpn
 clear hpn
 go_upto_region 10 with (first | (go_at_call 88; refine (yFind a _ HA.out.1 HA.out.2 H4.out).mono ?_; rw [HFI.out]; rintro e w1 ⟨rfl, b1⟩; have HN := Hd (HN.out.below b1); have HM := Hd (HM.out.below b1); have HB := Hd (tr_at HPN.out HB.out b1); clear b1))
 have cB := HN.out.cB
 go_wp2_with (first | (go_at_call 90; refine (gLoad HM.out.row (fun i hi => HOK.out.tm i hi) HOK.out.c8 (a - 268500992) O0 O1).mono ?_; rintro e w3 ⟨rfl, b1⟩; have HN := Hd (HN.out.below b1); have HM := Hd (HM.out.below b1); have HB := Hd (tr_at HPN.out HB.out b1); clear b1))
 go_ret2
 exact ⟨rfl, by rw [HPN.out]; exact HB.out⟩
set_option maxHeartbeats 1600000 in
theorem yLoad_dg (n c : Nat) (x : Bx) (bk ev : Value) (a : Int) (w : World) (M : MV w c x bk ev) (ok : x.ok n c) (a0 : 0 <= a) (a1 : a < 4294967296) (h4 : a % 4 = 0) (g0 : 268566528 <= a) (g1 : a < 268566548) (e : wh a = .dg (a - 268566528)) : Calls Tryz.prog 42 #[.agg (ml n x bk ev).toArray, .int .u32 a] w (fun e w' => e = .returned (.tuple #[.int .u32 (x.ldv n c a), .int .i64 (Bx.lde n c a)]) /\ Below w.heap.size w w') := by
 rw [show x.ldv n c a = x.wd.val (a - 268566528) by unfold Bx.ldv; rw [e], show Bx.lde n c a = wErr (a - 268566528) by unfold Bx.lde; rw [e]]
 have HFI := Hd (show fI a = (2, a - 268566528, true) by unfold fI; rw [e])
 have O0 : 0 <= a - 268566528 := by omega
 have O1 : a - 268566528 < 4294967296 := by omega
 obtain ⟨gk, capk, rfl, hrk⟩ := M.k
 have HOK := Hd ok
 have hb := trA (tr0 w) (oM11 n x (.slice (some ⟨gk, 0, none⟩) c capk) ev)
 have HN := Hd (show NAt (w.alloc (oM11 n x (.slice (some ⟨gk, 0, none⟩) c capk) ev)) w.heap.size n x (.slice (some ⟨gk, 0, none⟩) c capk) ev from blk_new w _)
 have HM := Hd (M.below hb)
 have HB := Hd hb
 clear hb M hrk ok
 have HA := Hd (show 0 <= a /\ a < 4294967296 from ⟨a0, a1⟩)
 have H4 := Hd h4
 go_enter Tryz.func42, Tryz.ntmps42
 go_upto_region 1 with (fail)
 rw [oM11_eq]
 generalize w.alloc (oM11 n x (.slice (some ⟨gk, 0, none⟩) c capk) ev) = W at *
 generalize hpn : w.heap.size = p at *
 have HPN := Hd hpn
 clear hpn
 go_wp2_with (first | (go_at_call 88; refine (yFind a _ HA.out.1 HA.out.2 H4.out).mono ?_; rw [HFI.out]; rintro e w1 ⟨rfl, b1⟩; have HN := Hd (HN.out.below b1); have HM := Hd (HM.out.below b1); have HB := Hd (tr_at HPN.out HB.out b1); clear b1) | (refine nLoadV rfl (.tmp 39) rfl rfl HN.out ?_) | (go_at_call 91; refine (vLoad x.wd (a - 268566528) _ HOK.out.wd O0 O1).mono ?_; rintro e w3 ⟨rfl, b1⟩; have HN := Hd (HN.out.below b1); have HM := Hd (HM.out.below b1); have HB := Hd (tr_at HPN.out HB.out b1); clear b1))
 go_ret2
 exact ⟨rfl, by rw [HPN.out]; exact HB.out⟩
set_option maxHeartbeats 1600000 in
theorem yLoad_rs (n c : Nat) (x : Bx) (bk ev : Value) (a : Int) (w : World) (M : MV w c x bk ev) (ok : x.ok n c) (a0 : 0 <= a) (a1 : a < 4294967296) (h4 : a % 4 = 0) (g0 : 268632064 <= a) (g1 : a < 268632080) (e : wh a = .rs (a - 268632064)) : Calls Tryz.prog 42 #[.agg (ml n x bk ev).toArray, .int .u32 a] w (fun e w' => e = .returned (.tuple #[.int .u32 (x.ldv n c a), .int .i64 (Bx.lde n c a)]) /\ Below w.heap.size w w') := by
 rw [show x.ldv n c a = sVal9 x.rs (a - 268632064) by unfold Bx.ldv; rw [e], show Bx.lde n c a = sErr9 (a - 268632064) by unfold Bx.lde; rw [e]]
 have HFI := Hd (show fI a = (3, a - 268632064, true) by unfold fI; rw [e])
 have O0 : 0 <= a - 268632064 := by omega
 have O1 : a - 268632064 < 4294967296 := by omega
 obtain ⟨gk, capk, rfl, hrk⟩ := M.k
 have HOK := Hd ok
 have hb := trA (tr0 w) (oM11 n x (.slice (some ⟨gk, 0, none⟩) c capk) ev)
 have HN := Hd (show NAt (w.alloc (oM11 n x (.slice (some ⟨gk, 0, none⟩) c capk) ev)) w.heap.size n x (.slice (some ⟨gk, 0, none⟩) c capk) ev from blk_new w _)
 have HM := Hd (M.below hb)
 have HB := Hd hb
 clear hb M hrk ok
 have HA := Hd (show 0 <= a /\ a < 4294967296 from ⟨a0, a1⟩)
 have H4 := Hd h4
 go_enter Tryz.func42, Tryz.ntmps42
 go_upto_region 1 with (fail)
 rw [oM11_eq]
 generalize w.alloc (oM11 n x (.slice (some ⟨gk, 0, none⟩) c capk) ev) = W at *
 generalize hpn : w.heap.size = p at *
 have HPN := Hd hpn
 clear hpn
 go_wp2_with (first | (go_at_call 88; refine (yFind a _ HA.out.1 HA.out.2 H4.out).mono ?_; rw [HFI.out]; rintro e w1 ⟨rfl, b1⟩; have HN := Hd (HN.out.below b1); have HM := Hd (HM.out.below b1); have HB := Hd (tr_at HPN.out HB.out b1); clear b1) | (refine nLoadU rfl (.tmp 47) rfl rfl HN.out ?_) | (go_at_call 92; refine (u9Load x.rs (a - 268632064) _ HOK.out.rs O0 O1).mono ?_; rintro e w3 ⟨rfl, b1⟩; have HN := Hd (HN.out.below b1); have HM := Hd (HM.out.below b1); have HB := Hd (tr_at HPN.out HB.out b1); clear b1))
 go_ret2
 exact ⟨rfl, by rw [HPN.out]; exact HB.out⟩
set_option maxHeartbeats 1600000 in
theorem yLoad_rk (n c : Nat) (x : Bx) (bk ev : Value) (a : Int) (w : World) (M : MV w c x bk ev) (ok : x.ok n c) (a0 : 0 <= a) (a1 : a < 4294967296) (h4 : a % 4 = 0) (g0 : 268697600 <= a) (g1 : a < 268697636) (e : wh a = .rk (a - 268697600)) : Calls Tryz.prog 42 #[.agg (ml n x bk ev).toArray, .int .u32 a] w (fun e w' => e = .returned (.tuple #[.int .u32 (x.ldv n c a), .int .i64 (Bx.lde n c a)]) /\ Below w.heap.size w w') := by
 rw [show x.ldv n c a = x.rk.valE (a - 268697600) by unfold Bx.ldv; rw [e], show Bx.lde n c a = sErrT (a - 268697600) by unfold Bx.lde; rw [e]]
 have HFI := Hd (show fI a = (4, a - 268697600, true) by unfold fI; rw [e])
 have O0 : 0 <= a - 268697600 := by omega
 have O1 : a - 268697600 < 4294967296 := by omega
 obtain ⟨gk, capk, rfl, hrk⟩ := M.k
 have HOK := Hd ok
 have hb := trA (tr0 w) (oM11 n x (.slice (some ⟨gk, 0, none⟩) c capk) ev)
 have HN := Hd (show NAt (w.alloc (oM11 n x (.slice (some ⟨gk, 0, none⟩) c capk) ev)) w.heap.size n x (.slice (some ⟨gk, 0, none⟩) c capk) ev from blk_new w _)
 have HM := Hd (M.below hb)
 have HB := Hd hb
 clear hb M hrk ok
 have HA := Hd (show 0 <= a /\ a < 4294967296 from ⟨a0, a1⟩)
 have H4 := Hd h4
 go_enter Tryz.func42, Tryz.ntmps42
 go_upto_region 1 with (fail)
 rw [oM11_eq]
 generalize w.alloc (oM11 n x (.slice (some ⟨gk, 0, none⟩) c capk) ev) = W at *
 generalize hpn : w.heap.size = p at *
 have HPN := Hd hpn
 clear hpn
 go_wp2_with (first | (go_at_call 88; refine (yFind a _ HA.out.1 HA.out.2 H4.out).mono ?_; rw [HFI.out]; rintro e w1 ⟨rfl, b1⟩; have HN := Hd (HN.out.below b1); have HM := Hd (HM.out.below b1); have HB := Hd (tr_at HPN.out HB.out b1); clear b1) | (refine nLoadK rfl (.tmp 55) rfl rfl HN.out ?_) | (go_at_call 93; refine (kLoad x.rk (a - 268697600) _ HOK.out.rk O0 O1).mono ?_; rintro e w3 ⟨rfl, b1⟩; have HN := Hd (HN.out.below b1); have HM := Hd (HM.out.below b1); have HB := Hd (tr_at HPN.out HB.out b1); clear b1))
 go_ret2
 exact ⟨rfl, by rw [HPN.out]; exact HB.out⟩
set_option maxHeartbeats 1600000 in
theorem yLoad_ln (n c : Nat) (x : Bx) (bk ev : Value) (a : Int) (w : World) (M : MV w c x bk ev) (ok : x.ok n c) (a0 : 0 <= a) (a1 : a < 4294967296) (h4 : a % 4 = 0) (g0 : 268763136 <= a) (g1 : a < 268763148) (e : wh a = .ln (a - 268763136)) : Calls Tryz.prog 42 #[.agg (ml n x bk ev).toArray, .int .u32 a] w (fun e w' => e = .returned (.tuple #[.int .u32 (x.ldv n c a), .int .i64 (Bx.lde n c a)]) /\ Below w.heap.size w w') := by
 rw [show x.ldv n c a = lVal (wires n c x) x.msk (a - 268763136) by unfold Bx.ldv; rw [e], show Bx.lde n c a = lErr (a - 268763136) by unfold Bx.lde; rw [e]]
 have HFI := Hd (show fI a = (5, a - 268763136, true) by unfold fI; rw [e])
 have O0 : 0 <= a - 268763136 := by omega
 have O1 : a - 268763136 < 4294967296 := by omega
 obtain ⟨gk, capk, rfl, hrk⟩ := M.k
 have HOK := Hd ok
 have hb := trA (tr0 w) (oM11 n x (.slice (some ⟨gk, 0, none⟩) c capk) ev)
 have HN := Hd (show NAt (w.alloc (oM11 n x (.slice (some ⟨gk, 0, none⟩) c capk) ev)) w.heap.size n x (.slice (some ⟨gk, 0, none⟩) c capk) ev from blk_new w _)
 have HM := Hd (M.below hb)
 have HB := Hd hb
 clear hb M hrk ok
 have HA := Hd (show 0 <= a /\ a < 4294967296 from ⟨a0, a1⟩)
 have H4 := Hd h4
 go_enter Tryz.func42, Tryz.ntmps42
 go_upto_region 1 with (fail)
 rw [oM11_eq]
 generalize w.alloc (oM11 n x (.slice (some ⟨gk, 0, none⟩) c capk) ev) = W at *
 generalize hpn : w.heap.size = p at *
 have HPN := Hd hpn
 clear hpn
 go_wp2_with (first | (go_at_call 88; refine (yFind a _ HA.out.1 HA.out.2 H4.out).mono ?_; rw [HFI.out]; rintro e w1 ⟨rfl, b1⟩; have HN := Hd (HN.out.below b1); have HM := Hd (HM.out.below b1); have HB := Hd (tr_at HPN.out HB.out b1); clear b1) | (refine nLoadB rfl (.tmp 2) rfl rfl HN.out ?_) | (go_at_call 44; refine (yLines n c x _ ev _ HM.out HOK.out).mono ?_; rintro e w2 ⟨rfl, b1⟩; have HN := Hd (HN.out.below b1); have HM := Hd (HM.out.below b1); have HB := Hd (tr_at HPN.out HB.out b1); clear b1) | (go_at_call 94; refine (rLoad (fH n c x) (bit x.msk) (a - 268763136) _ O0 O1).mono ?_; rw [val_wires n c x (a - 268763136) HOK.out.m0 HOK.out.m1]; rintro e w3 ⟨rfl, b1⟩; have HN := Hd (HN.out.below b1); have HM := Hd (HM.out.below b1); have HB := Hd (tr_at HPN.out HB.out b1); clear b1))
 go_ret2
 exact ⟨rfl, by rw [HPN.out]; exact HB.out⟩
theorem yLoad (n c : Nat) (x : Bx) (bk ev : Value) (a : Int) (w : World) (M : MV w c x bk ev) (ok : x.ok n c) (a0 : 0 <= a) (a1 : a < 4294967296) : Calls Tryz.prog 42 #[.agg (ml n x bk ev).toArray, .int .u32 a] w (fun e w' => e = .returned (.tuple #[.int .u32 (x.ldv n c a), .int .i64 (Bx.lde n c a)]) /\ Below w.heap.size w w') := by
 rcases wh_all a with ⟨g, e⟩ | ⟨g4, g0, g1, e⟩ | ⟨g4, g0, g1, e⟩ | ⟨g4, g0, g1, e⟩ | ⟨g4, g0, g1, e⟩ | ⟨g4, g0, g1, e⟩ | ⟨g4, g0, g1, e⟩ | ⟨g4, g, e⟩
 . exact yLoadOdd n c x bk ev a w M ok a0 a1 g e
 . exact yLoad_cl n c x bk ev a w M ok a0 a1 g4 g0 g1 e
 . exact yLoad_bk n c x bk ev a w M ok a0 a1 g4 g0 g1 e
 . exact yLoad_dg n c x bk ev a w M ok a0 a1 g4 g0 g1 e
 . exact yLoad_rs n c x bk ev a w M ok a0 a1 g4 g0 g1 e
 . exact yLoad_rk n c x bk ev a w M ok a0 a1 g4 g0 g1 e
 . exact yLoad_ln n c x bk ev a w M ok a0 a1 g4 g0 g1 e
 . exact yLoadNo n c x bk ev a w M ok a0 a1 g4 e
end Go.Proofs.YtcgmnjajodegmaaGreat.B
