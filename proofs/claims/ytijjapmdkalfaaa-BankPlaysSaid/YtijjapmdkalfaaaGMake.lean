/- The document's row at first: 'make([]C, n)'. -/
import Derived.Test.YtijjapmdkalfaaaGR
namespace Go.Proofs.Ytijjapmdkalfaaa.B
set_option linter.unusedVariables false
set_option linter.unusedSimpArgs false
open Go.ChangeShapes Go.WideShapes Go.RowKit Go.Sort
def zR (n : Nat) : Obj := .cells (madeCells (Value.agg (rl tz).toArray).cells (n * 8)) tM (0, 0)
theorem mkRun (n : Nat) (n8 : n ≤ 8) (w : World) : (Instr.makeSlice 28 (.int .i64 n) (.int .i64 n)).run Try.prog w = .ok (.slice (some ⟨w.heap.size, 0, none⟩) n n) (w.alloc (zR n)) := by
  obtain ⟨i0, hi, hz0, hz1, hz2⟩ := info_parts infoM
  have hr := run_make (P := Try.prog) w 28 48 i0 _ Try.underlying28 hi hz0 .i64 .i64 n n (by omega) (Int.le_refl _) (by rw [hz2]; omega) (by omega)
  rw [hz1] at hr
  simpa [zR] using hr
theorem rwMade (n : Nat) (n8 : n ≤ 8) (w : World) : RwAt (w.alloc (zR n)) w.heap.size n n (fun _ => tz) := by
  refine ⟨⟨_, blk_new w (zR n), by rw [size_madeCells], fun i hi j u hu => ?_⟩, Nat.le_refl _, by unfold maxLen; omega⟩
  have hj : j < 8 := by have := (List.getElem?_eq_some_iff.1 hu).1; rw [rl_len] at this; exact this
  have hlt : i * 8 + j < n * 8 := by omega
  have hc : (Value.agg (rl tz).toArray).cells = (rl tz).toArray := rfl
  have hs : (rl tz).toArray.size = 8 := rfl
  unfold madeCells
  rw [hc, hs]
  simp only [Array.getElem?_map]
  rw [show (Array.range (n * 8))[i * 8 + j]? = some (i * 8 + j) by simp [hlt]]
  simp only [Option.map_some]
  rw [show (i * 8 + j) % 8 = j by omega]
  have h2 : (rl tz).toArray[j]? = some u := by simpa using hu
  simp [getElem!_def, h2]
end Go.Proofs.Ytijjapmdkalfaaa.B
