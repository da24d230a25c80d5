/- A file's Copy: maps.Clone at registers. -/
import Derived.Test.YtfhggmiaablcnaaFileG
import Derived.Shelf.SlMaps.Clone
namespace Go.Proofs.Ytfhggmiaablcnaa.B
set_option linter.unusedVariables false
set_option linter.unusedSimpArgs false
open Go.ChangeShapes Go.WideShapes Go.RowKit Go.Sort Go.MapKept
set_option maxRecDepth 100000 in
theorem fClone (m : Nat) (w : World) (M : List (Int × Value)) (hm : mapP w ek ok32 m M) :
    Calls Try.prog 47 #[.map (some m)] w
      fun e w' => e = .returned (.map (some w.heap.size)) ∧ mapP w' ek ok32 w.heap.size M ∧ Below w.heap.size w w' := by
  obtain ⟨es, c, hb, h1, h2, h3⟩ := hm
  have hq := fun w => run_eql_map_nil_sl (P := Try.prog) w 75 _ _ (some m) Try.underlying75
  have HK := Lib.hid (show mapP (w.alloc (.map es c)) ek ok32 w.heap.size M from ⟨es, c, blk_new w _, h1, h2, h3⟩)
  clear h1 h2 h3
  go_enter Try.func47, Try.ntmps47
  go_wp2
  rw [run_callFunc_extern Try.func59 (by kernel_rfl) (by kernel_rfl) (by kernel_rfl) (e := Extern.MapsClone.clone) (by kernel_rfl), run_maps_clone_sl w 75 hb]
  simp only [Result.andThen]
  rw [Oper.upon_value]
  go_wp2
  rw [run_typeAssert_map_sl _ 75 20 _ _ _ Try.underlying75]
  simp only [Result.andThen]
  rw [Oper.upon_value]
  go_wp2
  go_ret
  exact ⟨rfl, HK.out, trA (tr0 w) _⟩
theorem fCopy {w : World} {f m : Nat} {M : List (Int × Rg)} (h : FileAt w f m M) :
    Calls Try.prog 16 #[.pointer (some ⟨f, 0, none⟩)] w
      fun e w' => ∃ f' m', e = .returned (.pointer (some ⟨f', 0, none⟩)) ∧ FileAt w' f' m' M ∧ w.heap.size ≤ f' ∧ w.heap.size ≤ m' ∧ Below w.heap.size w w' := by
  have c0 := blk_cell h.cell 0
  simp only [List.getElem?_toArray, List.getElem?_cons_zero] at c0
  have HC := Lib.hid (fClone m w _ h.map)
  have HW := Lib.hid h.wf
  clear h
  go_enter Try.func16, Try.ntmps16
  go_wp2_with fail
  refine HC.out.mono ?_
  rintro e w1 ⟨rfl, hM, hb⟩
  have hs := hb.size
  have hF : FileAt (w1.alloc (.cells #[.map (some w.heap.size)] 77 (0, 0))) w1.heap.size w.heap.size M := ⟨blk_new w1 _, hM.below (trA (tr0 w1) _) hM.lt, HW.out⟩
  have hB := trA hb (.cells #[.map (some w.heap.size)] 77 (0, 0))
  clear hM hb
  go_wp2_with fail
  go_ret
  exact ⟨_, _, rfl, hF, hs, Nat.le_refl _, hB⟩
end Go.Proofs.Ytfhggmiaablcnaa.B
