/- The law RegStays: bits that may neither be written nor cleared stay. -/
import Derived.Test.YtpndngiegjekpaaL02
import Derived.Test.YtpndngiegjekpaaTail
import Derived.Laws.StructEq
namespace Go.Proofs.Ytpndngiegjekpaa.B
set_option linter.unusedVariables false
set_option linter.unusedSimpArgs false
open Go.ChangeShapes Go.WideShapes Go.RowKit Go.Sort
/-- The bits that may neither be written nor cleared are the same. -/
def staysB (a r c X : Int) : Prop := ∀ i, i < 32 → bit r i = false → bit c i = false → bit X i = bit a i
theorem xor_bounds (a b : Int) (a0 : 0 ≤ a) (a1 : a < 4294967296) (b0 : 0 ≤ b) (b1 : b < 4294967296) : 0 ≤ bits BinOp.xor IntKind.u32 a b ∧ bits BinOp.xor IntKind.u32 a b < 4294967296 := by
  rw [u32_xor _ _ a0 a1 b0 b1]
  have : a.toNat ^^^ b.toNat < 2 ^ 32 := Nat.xor_lt_two_pow (by omega) (by omega)
  omega
theorem bit_xor (a b : Int) (i : Nat) (a0 : 0 ≤ a) (a1 : a < 4294967296) (b0 : 0 ≤ b) (b1 : b < 4294967296) : bit (bits BinOp.xor IntKind.u32 a b) i = (bit a i ^^ bit b i) := by
  rw [u32_xor _ _ a0 a1 b0 b1, bit_testBit _ _ (by omega), Int.toNat_natCast, Nat.testBit_xor, bit_testBit _ _ a0, bit_testBit _ _ b0]
theorem stays_zero (a r c X : Int) (a0 : 0 ≤ a) (a1 : a < 4294967296) (r0 : 0 ≤ r) (r1 : r < 4294967296) (c0 : 0 ≤ c) (c1 : c < 4294967296) (x0 : 0 ≤ X) (x1 : X < 4294967296) (h : staysB a r c X) :
    bits BinOp.andNot IntKind.u32 (bits BinOp.xor IntKind.u32 X a) (bits BinOp.or IntKind.u32 r c) = 0 := by
  obtain ⟨p0, p1⟩ := xor_bounds X a x0 x1 a0 a1
  obtain ⟨q0, q1⟩ := or_bounds r c r0 r1 c0 c1
  obtain ⟨s0, s1⟩ := andNot_bounds _ _ p0 p1 q0 q1
  refine same_bits s0 s1 (by omega) (by omega) fun i hi => ?_
  rw [bit_andNot _ _ i hi p0 p1 q0 q1, bit_xor _ _ i x0 x1 a0 a1, bit_or _ _ i r0 r1 c0 c1, bit_zero]
  cases hr : bit r i
  · cases hc : bit c i
    · rw [h i hi hr hc]; simp
    · simp
  · simp
theorem stays_start (a r c : Int) : staysB a r c a := fun _ _ _ _ => rfl
theorem stays_next (a r c X v : Int) (h : staysB a r c X) : staysB a r c (stV X r c v) := fun i hi hr hc => by
  rw [bit_stV _ _ _ _ i hi]; unfold stB; rw [hr, hc]; simpa using h i hi hr hc
theorem neq_zero : ((0 : Int) != 0) = false := rfl
set_option maxRecDepth 100000 in
set_option maxHeartbeats 3200000 in
theorem regStays (a s r c : Int) (l : Value) (w : World) (a0 : 0 ≤ a) (a1 : a < 4294967296) (r0 : 0 ≤ r) (r1 : r < 4294967296) (c0 : 0 ≤ c) (c1 : c < 4294967296)
    (b off len cap : Nat) (zs : Nat → Int) (hl : len ≤ cap) (hm : cap ≤ maxLen) (hb : b < w.heap.size) (hz : ∀ i, i < cap → w.cell? ⟨b, off + i, none⟩ = some (.int .u32 (zs i)) ∧ 0 ≤ zs i ∧ zs i < 4294967296) :
    Calls Try.prog 5 #[.agg #[.int .u32 a, .int .u32 s, .int .u32 r, .int .u32 c], .slice (some ⟨b, off, none⟩) len cap] w
      fun e w' => e = .returned (.bool true) ∧ Below w.heap.size w w' := by
  unfold maxLen at hm
  go_enter Try.func5, Try.ntmps5
  go_wp2_with fail
  go_loopw [6] (fun i wr => ∃ (k : Nat) (X : Int), k ≤ len ∧ k ≤ 20 ∧ i = .int .i64 k ∧ 0 ≤ X ∧ X < 4294967296 ∧ staysB a r c X ∧
      Below (w.heap.size + 1) (w.alloc (.cells #[.int .u32 a, .int .u32 s, .int .u32 r, .int .u32 c] 24)) wr ∧ w.heap.size + 1 < wr.heap.size ∧
      wr.heap[w.heap.size + 1]? = some (.cells #[.int .u32 X, .int .u32 s, .int .u32 r, .int .u32 c] 24 (0, 0))) (fun i _ => 20 - (intOf i).toNat)
  case atStart => exact ⟨0, a, by omega, by omega, rfl, a0, a1, stays_start a r c, (Below.refl _ _).alloc (by simp) _, by simp, by simpa using blk_new (w.alloc _) _⟩
  case round =>
    obtain ⟨k, X, hk, hk20, rfl, x0, x1, hst, hbel, hsz, hblk⟩ := hrel
    have hx0 := blk_cell hblk 0
    have hx1 := blk_cell hblk 1
    have hx2 := blk_cell hblk 2
    have hx3 := blk_cell hblk 3
    simp only [List.getElem?_toArray, List.getElem?_cons_zero, List.getElem?_cons_succ] at hx0 hx1 hx2 hx3
    have hf0 := blk_free hblk 0
    have hf1 := blk_free hblk 1
    have hf2 := blk_free hblk 2
    have hf3 := blk_free hblk 3
    by_cases hlt : k < len
    · by_cases h20 : k < 20
      · have hzk : wr.cell? ⟨b, off + k, none⟩ = some (.int .u32 (zs k)) := by
          rw [hbel.cell (by simp; omega)]
          exact (World.cell?_alloc_old w _ _ (by simp; omega)).trans (hz k (by omega)).1
        have z0 := (hz k (by omega)).2.1
        have z1 := (hz k (by omega)).2.2
        have kk0 : (0 : Int) ≤ (k : Int) := by omega
        have kk1 : (k : Int) < (len : Int) := by omega
        have hbr : b < wr.heap.size := by omega
        have hxr : w.heap.size < wr.heap.size := by omega
        have hd20 : decide ((k : Int) < 20) = true := by simp; omega
        have HZ := Lib.hid hz
        clear hz
        go_wp2_with fail
        have hg := gcell
        have hf := gfrozen
        refine wp_region_tail_below 6 (by kernel_rfl) (by kernel_rfl) ?_
        simp only [List.take_succ_cons, List.take_zero, List.drop_succ_cons, List.drop_zero]
        repeat (go_big_quiet_step (first
          | (go_at_call 8; exact Calls.regrown_of (Store _ _ _ _ _ _ x0 x1 r0 r1 c0 c1 z0 z1))))
        refine wpQuiet_nil ?_
        intro _ hw'
        obtain ⟨⟨dq, osq⟩, hw''⟩ := hw'
        subst hw''
        go_wp2_with fail
        have hG := below_regrown wr dq osq
        have hB0 := blk_below hG hblk (by omega)
        have hB1 := blk_set (blk_set (blk_set (blk_set hB0 0 (.int .u32 (stV X r c (zs k)))) 1 (.int .u32 s)) 2 (.int .u32 r)) 3 (.int .u32 c)
        have hW1 : Below (w.heap.size + 1) (w.alloc (.cells #[.int .u32 a, .int .u32 s, .int .u32 r, .int .u32 c] 24)) ((((grow (redrawn wr dq) osq).setCell ⟨w.heap.size + 1, 0, none⟩ (.int .u32 (stV X r c (zs k)))).setCell ⟨w.heap.size + 1, 1, none⟩ (.int .u32 s)).setCell ⟨w.heap.size + 1, 2, none⟩ (.int .u32 r) |>.setCell ⟨w.heap.size + 1, 3, none⟩ (.int .u32 c)) :=
          ((((hbel.trans (hG.mono (by omega))).setCell (by simp) _).setCell (by simp) _).setCell (by simp) _).setCell (by simp) _
        have hst' := stays_next a r c X (zs k) hst
        have hbd := stV_bounds X r c (zs k)
        have hag := store_again X r c (zs k)
        clear hG hB0 hst hx0 hx1 hx2 hx3 hf0 hf1 hf2 hf3 hzk
        generalize ((((grow (redrawn wr dq) osq).setCell ⟨w.heap.size + 1, 0, none⟩ (.int .u32 (stV X r c (zs k)))).setCell ⟨w.heap.size + 1, 1, none⟩ (.int .u32 s)).setCell ⟨w.heap.size + 1, 2, none⟩ (.int .u32 r) |>.setCell ⟨w.heap.size + 1, 3, none⟩ (.int .u32 c)) = W at *
        generalize stV X r c (zs k) = Y at *
        obtain ⟨y0, y1⟩ := hbd
        have hB2 : W.heap[w.heap.size + 1]? = some (.cells #[.int .u32 Y, .int .u32 s, .int .u32 r, .int .u32 c] 24 (0, 0)) := by simpa using hB1
        clear hB1 hblk hbel
        have hwsz := blk_lt hB2
        have hx0 := blk_cell hB2 0
        have hx1 := blk_cell hB2 1
        have hx2 := blk_cell hB2 2
        have hx3 := blk_cell hB2 3
        simp only [List.getElem?_toArray, List.getElem?_cons_zero, List.getElem?_cons_succ] at hx0 hx1 hx2 hx3
        have hR := blk_below hW1 (blk_new w _) (by omega)
        have hr0 := blk_cell hR 0
        have hr1 := blk_cell hR 1
        have hr2 := blk_cell hR 2
        have hr3 := blk_cell hR 3
        simp only [List.getElem?_toArray, List.getElem?_cons_zero, List.getElem?_cons_succ] at hr0 hr1 hr2 hr3
        have hzk : W.cell? ⟨b, off + k, none⟩ = some (.int .u32 (zs k)) := by
          rw [hW1.cell (by simp; omega)]
          exact (World.cell?_alloc_old w _ _ (by simp; omega)).trans (HZ.out k (by omega)).1
        have hbr2 : b < W.heap.size := by omega
        have hxr2 : w.heap.size < W.heap.size := by omega
        have hzero := stays_zero a r c Y a0 a1 r0 r1 c0 c1 y0 y1 hst'
        refine wp_region_quiet_below (by kernel_rfl) (by kernel_rfl) ?_
        repeat (go_big_quiet_step (first
          | (go_at_call 8; exact Calls.regrown_of (Store _ _ _ _ _ _ y0 y1 r0 r1 c0 c1 z0 z1))))
        refine wpQuiet_nil ?_
        intro _ hw'
        obtain ⟨⟨dp, osp⟩, hw''⟩ := hw'
        subst hw''
        go_wp2_with fail
        have hG2 := below_regrown W dp osp
        go_roundw
        case rel => exact ⟨k + 1, Y, by omega, by omega, by go_num, y0, y1, hst', hW1.trans (hG2.mono (by omega)), by have := hG2.size; omega, blk_below hG2 hB2 (by omega)⟩
        case measure => simp [intOf]; omega
      · have hd20 : decide ((k : Int) < 20) = false := by simp; omega
        clear hz
        have hg := gcell
        have hf := gfrozen
        have hxr : w.heap.size < wr.heap.size := by omega
        have hR := blk_below hbel (blk_new w _) (by omega)
        have hr0 := blk_cell hR 0
        have hr1 := blk_cell hR 1
        have hr2 := blk_cell hR 2
        have hr3 := blk_cell hR 3
        simp only [List.getElem?_toArray, List.getElem?_cons_zero, List.getElem?_cons_succ] at hr0 hr1 hr2 hr3
        go_wp2_with fail
        refine wp_region_quiet_below (by kernel_rfl) (by kernel_rfl) ?_
        repeat (go_big_quiet_step (first
          | (go_at_call 7; exact Calls.regrown_of (known _))
          | (go_at_call 13; exact Calls.regrown_of (Again _ _ _ _ _))))
        refine wpQuiet_nil ?_
        intro _ hw'
        obtain ⟨⟨dp, osp⟩, hw''⟩ := hw'
        subst hw''
        go_wp2_with fail
        go_ret
        exact ⟨rfl, trG ((((Below.refl w.heap.size w).alloc (Nat.le_refl _) _).trans (hbel.mono (by omega)))) _ _⟩
    · clear hz
      have hg := gcell
      have hf := gfrozen
      have hxr : w.heap.size < wr.heap.size := by omega
      have hR := blk_below hbel (blk_new w _) (by omega)
      have hr0 := blk_cell hR 0
      have hr1 := blk_cell hR 1
      have hr2 := blk_cell hR 2
      have hr3 := blk_cell hR 3
      simp only [List.getElem?_toArray, List.getElem?_cons_zero, List.getElem?_cons_succ] at hr0 hr1 hr2 hr3
      go_wp2_with fail
      refine wp_region_quiet_below (by kernel_rfl) (by kernel_rfl) ?_
      repeat (go_big_quiet_step (first
        | (go_at_call 7; exact Calls.regrown_of (known _))
        | (go_at_call 13; exact Calls.regrown_of (Again _ _ _ _ _))))
      refine wpQuiet_nil ?_
      intro _ hw'
      obtain ⟨⟨dp, osp⟩, hw''⟩ := hw'
      subst hw''
      go_wp2_with fail
      go_ret
      exact ⟨rfl, trG ((((Below.refl w.heap.size w).alloc (Nat.le_refl _) _).trans (hbel.mono (by omega)))) _ _⟩
set_option maxRecDepth 100000 in
set_option maxHeartbeats 1600000 in
theorem regStays0 (a s r c : Int) (y : Option Addr) (cap : Nat) (w : World) :
    Calls Try.prog 5 #[.agg #[.int .u32 a, .int .u32 s, .int .u32 r, .int .u32 c], .slice y 0 cap] w
      fun e w' => e = .returned (.bool true) ∧ Below w.heap.size w w' := by
  have hg := gcell
  have hf := gfrozen
  go_enter Try.func5, Try.ntmps5
  go_wp2_with fail
  refine wp_loop_rounds 1 ?_
  rw [rounds_succ]
  go_wp2_with fail
  refine wp_region_quiet_below (by kernel_rfl) (by kernel_rfl) ?_
  repeat (go_big_quiet_step (first
    | (go_at_call 7; exact Calls.regrown_of (known _))
    | (go_at_call 13; exact Calls.regrown_of (Again _ _ _ _ _))))
  refine wpQuiet_nil ?_
  intro _ hw'
  obtain ⟨⟨dp, osp⟩, hw''⟩ := hw'
  subst hw''
  go_wp2_with fail
  go_ret
  exact ⟨rfl, trG (trA (trA (tr0 w) _) _) _ _⟩
theorem wRegStays (v0 v1 : Value) (w : World) (h0 : FitsV w (.pair (.int .u32) (.pair (.int .u32) (.pair (.int .u32) (.pair (.int .u32) .unit)))) v0) (h1 : FitsV w (.slice (.int .u32)) v1) :
    Calls Try.prog 5 #[v0, v1] w fun e w' => e = .returned (.bool true) ∧ Below w.heap.size w w' := by
  obtain ⟨a, s, r, c, rfl, ⟨a0, a1⟩, _, ⟨r0, r1⟩, ⟨c0, c1⟩⟩ := fits_reg h0
  obtain ⟨y, len, cap, rfl, rfl | ⟨b, off, zs, rfl, hl, hm, hb, hz⟩⟩ := fits_ints h1
  · exact regStays0 a s r c y cap w
  · exact regStays a s r c .nilIface w a0 a1 r0 r1 c0 c1 b off len cap zs hl hm hb fun i hi => by
      obtain ⟨g1, g2⟩ := hz i hi
      have := bounds_u32 g2
      exact ⟨g1, by omega, by omega⟩
end Go.Proofs.Ytpndngiegjekpaa.B
