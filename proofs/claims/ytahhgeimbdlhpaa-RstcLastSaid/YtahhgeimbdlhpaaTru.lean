/- Rows of 32 truths, by value: the document's Bits and Word (layer 4's own answers, which other layers use too). -/
import Derived.Test.YtahhgeimbdlhpaaArr
import Derived.Test.YtahhgeimbdlhpaaLPlain
import Derived.Test.YtahhgeimbdlhpaaBBit
import Derived.WalkLawsBesides
namespace Go.Proofs.Ytahhgeimbdlhpaa.B
set_option linter.unusedVariables false
set_option linter.unusedSimpArgs false
open Go.ChangeShapes Go.WideShapes Go.RowKit Go.Sort
theorem i25 : (Try.prog.info? 25).map (·.size) = some 32 := by kernel_rfl
section
variable {ops : Array Oper} {rest : List Oper} {o : Oper} {a : Act} {w : World} {Q : Exit → Act → World → Prop}
theorem load25 (hgd : o.guard = none) (x : Operand) (ho : o.op = .load 25 x) (g off : Nat) (hx : a.eval x = .pointer (some ⟨g, off, none⟩)) {t : TypeId} {cs : Array Value} {fr : Nat × Nat} (f : Nat → Bool) (hg : w.heap[g]? = some (.cells cs t fr)) (hp : PartAt cs off (bl f 32))
    (h : wpList Try.prog ops Q rest (a.put o.dst (.agg (bl f 32).toArray)) w) : wpList Try.prog ops Q (o :: rest) a w :=
  wpList_load_part hgd _ x ho g off hx _ (bl f 32) hg Try.underlying25 rfl (by rw [bl_len]; exact i25) hp h
theorem store25 (hgd : o.guard = none) (x y : Operand) (ho : o.op = .store 25 x y) (g off : Nat) (hx : a.eval x = .pointer (some ⟨g, off, none⟩)) (f : Nat → Bool) (hy : a.eval y = .agg (bl f 32).toArray) {t : TypeId} {cs : Array Value} (hg : w.heap[g]? = some (.cells cs t (0, 0))) (hl : off + 32 ≤ cs.size)
    (h : wpList Try.prog ops Q rest (a.put o.dst undef) (w.setRow g (spliced cs off (bl f 32)))) : wpList Try.prog ops Q (o :: rest) a w :=
  wpList_store_part hgd _ x y ho g off hx (bl f 32) hy hg (by rw [bl_len]; exact i25) (by rw [bl_len]; exact hl) (bl_one _ _) h
theorem qload25 {C : World → Prop} {K : Act → Prop} (x : Operand) (ho : o.op = .load 25 x) (g off : Nat) (hx : a.eval x = .pointer (some ⟨g, off, none⟩)) {t : TypeId} {cs : Array Value} {fr : Nat × Nat} (f : Nat → Bool) (hg : ∀ w, C w → w.heap[g]? = some (.cells cs t fr)) (hp : PartAt cs off (bl f 32))
    (h : K (a.put o.dst (.agg (bl f 32).toArray))) : o.quiet Try.prog a C K :=
  quiet_load_part _ x ho g off hx _ (bl f 32) hg Try.underlying25 rfl (by rw [bl_len]; exact i25) hp h
end
theorem bl_cell {w : World} {b : Nat} {f : Nat → Bool} {t : TypeId} {fr : Nat × Nat} (h : w.heap[b]? = some (.cells (bl f 32).toArray t fr)) (k : Nat) (hk : k < 32) : w.cell? ⟨b, k, none⟩ = some (.bool (f k)) := by
  rw [cell_of_row w b k _ t fr h]; simpa using bl_get f 32 k hk
theorem row_lt {w : World} {b : Nat} {o : Obj} (h : w.heap[b]? = some o) : b < w.heap.size := lt_of_block h
set_option maxHeartbeats 800000 in
theorem rWord (f : Nat → Bool) (w : World) :
    Calls Try.prog 26 #[.agg (bl f 32).toArray] w fun e w' => e = .returned (.int .u32 (ob f 32)) ∧ Below w.heap.size w w' := by
  go_enter Try.func26, Try.ntmps26
  go_wp2_with fail
  have hB := blk_new w (.cells (bl f 32).toArray 25)
  have hb : Below w.heap.size w (w.alloc (.cells (bl f 32).toArray 25)) := trA (tr0 w) _
  generalize (w.alloc (.cells (bl f 32).toArray 25)) = W at *
  have HB := Lib.hid hB
  clear hB
  go_loop [3, 4, 5] (fun out unit i => ∃ (k : Nat) (x y : Int), k ≤ 32 ∧ i = .int .i64 k ∧ out = .int .u32 x ∧ unit = .int .u32 y ∧ Hid (x = ob f k) ∧ Hid (y = un k)) (fun _ _ i => 32 - (intOf i).toNat)
  case atStart => exact ⟨0, _, _, by omega, rfl, rfl, rfl, Lib.hid rfl, Lib.hid rfl⟩
  case round =>
    obtain ⟨k, x, y, hk, rfl, rfl, rfl, hx, hy⟩ := hrel
    have u : 0 ≤ y ∧ y < 4294967296 := by rw [hy.out]; exact un_bounds k
    have o : 0 ≤ x ∧ x < 4294967296 := by rw [hx.out]; exact ob_bounds f k hk
    obtain ⟨u0, u1⟩ := u
    obtain ⟨o0, o1⟩ := o
    have hu := Lib.hid (un_succ k)
    by_cases hlt : k < 32
    · have ho : x + y < 4294967296 := by rw [hx.out, hy.out]; exact ob_un f k hlt
      have hc := bl_cell HB.out k hlt
      cases hs : f k
      · have hn := Lib.hid (ob_no f k hs)
        rw [hs] at hc
        have HS := Lib.hid hs
        clear hs
        go_wp2_with fail
        go_round
        case rel => exact ⟨k + 1, _, _, by omega, by go_num, rfl, rfl, Lib.hid (by rw [hn.out]; exact hx.out), Lib.hid (by rw [hu.out, ← hy.out])⟩
        case measure => simp [intOf]; omega
      · have hn := Lib.hid (ob_yes f k hlt hs)
        rw [hs] at hc
        have HS := Lib.hid hs
        clear hs
        go_wp2_with fail
        go_round
        case rel => exact ⟨k + 1, _, _, by omega, by go_num, rfl, rfl, Lib.hid (by rw [hn.out, ← hx.out, ← hy.out]), Lib.hid (by rw [hu.out, ← hy.out])⟩
        case measure => simp [intOf]; omega
    · go_wp2_with fail
      go_ret
      exact ⟨ret_int (by rw [hx.out, show k = 32 by omega]), hb⟩
/-- The first k truths, else false. -/
def upto (f : Nat → Bool) (k i : Nat) : Bool := decide (i < k) && f i
theorem upto_zero (f : Nat → Bool) : bl (upto f 0) 32 = bl (fun _ => false) 32 := bl_congr _ _ _ fun i _ => by unfold upto; simp
theorem upto_full (f : Nat → Bool) : bl (upto f 32) 32 = bl f 32 := bl_congr _ _ _ fun i hi => by unfold upto; simp [hi]
theorem upto_next (f : Nat → Bool) (k : Nat) : (bl (upto f k) 32).set k (.bool (f k)) = bl (upto f (k + 1)) 32 := by
  rw [bl_set]
  refine bl_congr _ _ _ fun i hi => ?_
  unfold upto
  by_cases e : i = k
  · rw [if_pos e, e, decide_eq_true (by omega)]; simp
  · rw [if_neg e]
    by_cases h : i < k
    · rw [decide_eq_true h, decide_eq_true (by omega)]
    · rw [decide_eq_false h, decide_eq_false (by omega)]
theorem upto_store {w : World} {b : Nat} {f : Nat → Bool} {t : TypeId} (k : Nat) (h : w.heap[b]? = some (.cells (bl (upto f k) 32).toArray t (0, 0))) : (w.setCell ⟨b, k, none⟩ (.bool (f k))).heap[b]? = some (.cells (bl (upto f (k + 1)) 32).toArray t (0, 0)) := by
  rw [blk_set h, set_arr, upto_next]
theorem zeros25 : (#[.bool false, .bool false, .bool false, .bool false, .bool false, .bool false, .bool false, .bool false, .bool false, .bool false, .bool false, .bool false, .bool false, .bool false, .bool false, .bool false, .bool false, .bool false, .bool false, .bool false, .bool false, .bool false, .bool false, .bool false, .bool false, .bool false, .bool false, .bool false, .bool false, .bool false, .bool false, .bool false] : Array Value) = (bl (fun _ => false) 32).toArray := rfl
set_option maxHeartbeats 1600000 in
theorem rBits (n : Int) (w : World) (n0 : 0 ≤ n) (n1 : n < 4294967296) :
    Calls Try.prog 22 #[.int .u32 n] w fun e w' => e = .returned (.agg (bl (bit n) 32).toArray) ∧ Below w.heap.size w w' := by
  go_enter Try.func22, Try.ntmps22
  go_wp2_with fail
  rw [zeros25]
  have h0 := b2_0 w (.cells (bl (fun _ => false) 32).toArray 25) (.cells (bl (fun _ => false) 32).toArray 25)
  have h1 := b2_1 w (.cells (bl (fun _ => false) 32).toArray 25) (.cells (bl (fun _ => false) 32).toArray 25)
  have hb : Below w.heap.size w ((w.alloc (.cells (bl (fun _ => false) 32).toArray 25)).alloc (.cells (bl (fun _ => false) 32).toArray 25)) := trA (trA (tr0 w) _) _
  generalize ((w.alloc (.cells (bl (fun _ => false) 32).toArray 25)).alloc (.cells (bl (fun _ => false) 32).toArray 25)) = W at *
  have H0 := Lib.hid h0
  have H1 := Lib.hid h1
  clear h0 h1
  go_loopw [4] (fun i wr => ∃ k : Nat, k ≤ 32 ∧ i = .int .i64 k ∧ wr.heap[w.heap.size]? = some (.cells (bl (fun _ => false) 32).toArray 25 (0, 0)) ∧ wr.heap[w.heap.size + 1]? = some (.cells (bl (upto (bit n) k) 32).toArray 25 (0, 0)) ∧ Below w.heap.size w wr) (fun i _ => 32 - (intOf i).toNat)
  case atStart => exact ⟨0, by omega, rfl, H0.out, by rw [upto_zero]; exact H1.out, hb⟩
  case round =>
    clear hb
    obtain ⟨k, hk, rfl, h0, h1, hb⟩ := hrel
    by_cases hlt : k < 32
    · have hc := bl_cell h1 k hlt
      have hf := blk_free h1 k
      have H2 := Lib.hid (upto_store k h1)
      have H0 := Lib.hid (blk_else h0 (w.heap.size + 1) k (.bool (bit n k)) (by omega))
      have hB := hb.setCell (p := ⟨w.heap.size + 1, k, none⟩) (by simp) (.bool (bit n k))
      clear h0 h1
      go_wp2_with (go_at_call 28; refine (Bit _ _ _ (by omega) (by omega) (by omega) (by omega)).mono ?_; rintro e w' ⟨rfl, rfl⟩)
      go_roundw
      case rel => exact ⟨k + 1, by omega, by go_num, H0.out, H2.out, hB⟩
      case measure => simp [intOf]; omega
    · obtain rfl : k = 32 := by omega
      rw [upto_full] at h1
      go_wp2_with (first | (refine load25 rfl (.tmp 3) rfl _ _ rfl _ h1 (part_all _) ?_) | (refine store25 rfl (.tmp 2) (.tmp 15) rfl _ _ rfl _ rfl h0 (by simp [bl_len]) ?_))
      refine bodyPost_ret (v := .agg (bl (bit n) 32).toArray) ?_ rfl ⟨rfl, below_setRow hb _ (Nat.le_refl _)⟩
      exact results_cell_one Try.results22 _ _ _ 0 _ (bl (bit n) 32) rfl (row_set _ h0) Try.underlying25 rfl (by rw [bl_len]; exact i25) (by rw [spliced_all _ _ (by simp [bl_len])]; exact part_all _)
theorem ob_bit (h : Int) (h0 : 0 ≤ h) (h1 : h < 4294967296) : ob (bit h) 32 = h := by
  obtain ⟨b0, b1⟩ := ob_bounds (bit h) 32 (by omega)
  refine same_bits b0 b1 h0 h1 fun i hi => ?_
  unfold ob
  rw [bit_ofBits, decide_eq_true hi, Bool.true_and]
theorem rWordB (h : Int) (w : World) (h0 : 0 ≤ h) (h1 : h < 4294967296) :
    Calls Try.prog 26 #[.agg (bl (bit h) 32).toArray] w fun e w' => e = .returned (.int .u32 h) ∧ Below w.heap.size w w' := by
  have := rWord (bit h) w; rw [ob_bit h h0 h1] at this; exact this
end Go.Proofs.Ytahhgeimbdlhpaa.B
