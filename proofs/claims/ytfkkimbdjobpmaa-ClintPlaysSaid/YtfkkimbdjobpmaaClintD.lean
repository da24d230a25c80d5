/- Package clint: Copy. -/
import Derived.Test.YtfkkimbdjobpmaaClintC
namespace Go.Proofs.Ytfkkimbdjobpmaa.B
set_option linter.unusedVariables false
set_option linter.unusedSimpArgs false
open Go.ChangeShapes Go.WideShapes Go.RowKit Go.Sort Go.MapKept
theorem iClint : (Try.prog.info? 60).map (·.size) = some 19 := by kernel_rfl
theorem cCopyNil (w : World) :
    Calls Try.prog 17 #[.pointer none] w fun e w' => e = .returned (.pointer none) ∧ w = w' := by
  go_enter Try.func17, Try.ntmps17
  go_wp2_with fail
  go_ret
  exact ⟨rfl, rfl⟩
def CCopy (w : World) (t : Int) (n : Nat) (D S : Nat → Int) (e : Ending) (w' : World) : Prop :=
  ∃ m', w.heap.size < m' ∧ e = .returned (.pointer (some ⟨w.heap.size, 0, none⟩)) ∧ CAt w' w.heap.size m' t n D S ∧ Below w.heap.size w w'
theorem cCopy (t : Int) (n : Nat) (D S : Nat → Int) (p m : Nat) (w : World) (hc : CAt w p m t n D S) :
    Calls Try.prog 17 #[.pointer (some ⟨p, 0, none⟩)] w (CCopy w t n D S) := by
  have hl := hc.ltp
  have HC := Lib.hid hc
  clear hc
  go_enter Try.func17, Try.ntmps17
  go_upto_region 4 with (first
    | (refine wpList_load_part rfl 60 (.tmp 7) rfl p 0 rfl _ (ccl t n D S m) HC.out.cell Try.underlying60 rfl (by rw [ccl_len]; exact iClint) (part_all _) ?_)
    | (refine wpList_store_part rfl 60 (.tmp 3) (.tmp 8) rfl _ 0 rfl (ccl t n D S m) rfl (blk_new _ _) (by rw [ccl_len]; exact iClint) (by rw [ccl_len]; decide) (ccl_one _ _ _ _ _) ?_))
  rw [spliced_all _ _ (by rw [ccl_len]; rfl)]
  have hK := row_set (ccl t n D S m).toArray (blk_new w (.cells #[.int .u64 0, .int .i64 0, .int .u64 0, .int .u64 0, .int .u64 0, .int .u64 0, .int .u64 0, .int .u64 0, .int .u64 0, .int .u64 0, .int .u32 0, .int .u32 0, .int .u32 0, .int .u32 0, .int .u32 0, .int .u32 0, .int .u32 0, .int .u32 0, .map none] 60))
  have hB := below_setRow (trA (tr0 w) (.cells #[.int .u64 0, .int .i64 0, .int .u64 0, .int .u64 0, .int .u64 0, .int .u64 0, .int .u64 0, .int .u64 0, .int .u64 0, .int .u64 0, .int .u32 0, .int .u32 0, .int .u32 0, .int .u32 0, .int .u32 0, .int .u32 0, .int .u32 0, .int .u32 0, .map none] 60)) (ccl t n D S m).toArray (Nat.le_refl w.heap.size)
  generalize (w.alloc (.cells #[.int .u64 0, .int .i64 0, .int .u64 0, .int .u64 0, .int .u64 0, .int .u64 0, .int .u64 0, .int .u64 0, .int .u64 0, .int .u64 0, .int .u32 0, .int .u32 0, .int .u32 0, .int .u32 0, .int .u32 0, .int .u32 0, .int .u32 0, .int .u32 0, .map none] 60)).setRow w.heap.size (ccl t n D S m).toArray = W at *
  have c := (HC.out.below hB).cM
  have f := blk_free hK 18
  have hM := (HC.out.below hB).map
  have K := Lib.hid hK
  have hs : w.heap.size < W.heap.size := lt_of_block hK
  have HB := Lib.hid hB
  clear hK hB
  go_wp2_with fail
  refine (cClone m n W hM).mono ?_
  rintro e w2 ⟨rfl, hM2, hb2⟩
  have K2 := blk_below hb2 K.out hs
  have c2 := blk_cell K2 18
  have f2 := blk_free K2 18
  rw [List.getElem?_toArray, ccl_M] at c2
  have HK2 := Lib.hid K2
  clear K2
  go_wp2_with fail
  go_ret
  have hm2 := hM2.lt
  refine ⟨W.heap.size, hs, rfl, ⟨?_, hM2.kept (Below.heap_setCell _ _ _ _ (by show W.heap.size ≠ w.heap.size; omega)), HC.out.t0, HC.out.t1, HC.out.n0, HC.out.n1, HC.out.d, HC.out.s⟩, (tr HB.out hb2).setCell (p := ⟨w.heap.size, 18, none⟩) (Nat.le_refl _) _⟩
  rw [blk_set HK2.out]
  simp only [List.setIfInBounds_toArray]
  rw [ccl_setM]
end Go.Proofs.Ytfkkimbdjobpmaa.B
