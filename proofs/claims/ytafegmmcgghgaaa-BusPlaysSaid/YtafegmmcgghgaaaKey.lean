/- Structs of one number as keys of maps. -/
import Derived.Test.YtafegmmcgghgaaaMap
namespace Go.Proofs.Ytafegmmcgghgaaa.B
set_option linter.unusedVariables false
set_option linter.unusedSimpArgs false
open Go.ChangeShapes Go.WideShapes Go.RowKit Go.Sort Go.MapKept
theorem key_one {P : Program} {k : TypeId} {q : IntKind} {f : Field} (hk : P.underlying k = some (.struct #[f])) (hf : P.underlying f.type = some (.int q)) (h0 : f.offset = 0) (hn : (f.name != "_") = true)
    {n : Nat} (hs : P.types.size = n + 1) (hc : P.cellsOf k = 1) (hd : P.cellsOf f.type = 1) (hkey : P.keyType k = true) {a : Int} (hw : (Lit.int q a).wf = true) :
    ∃ l, keyOf P k (.agg #[.int q a]) = some l := by
  have hfm : (Value.agg #[Value.int q a]).formed P k = true := by simp [Value.formed, hk, hc]
  refine ⟨.string (keyBytes [.int q a]), ?_⟩
  have e1 : P.keyLits (n + 1) f.type [Value.int q a] = some [Lit.int q a] := by simp [Program.keyLits, hf, hw]
  have e2 : P.keyLits (P.types.size + 1) k [Value.int q a] = some [Lit.int q a] := by
    rw [hs]
    have : P.keyLits (n + 1 + 1) k [Value.int q a] = (if [Value.int q a].length = P.cellsOf k ∧ (#[f]).all (·.name != "_") = true then ((#[f]).toList.mapM fun f => P.keyLits (n + 1) f.type (([Value.int q a].drop f.offset).take (P.cellsOf f.type))).map List.flatten else none) := by
      rw [Program.keyLits.eq_def]; simp only [hk]
    rw [this, if_pos ⟨by simp [hc], by simpa using hn⟩]
    simp [h0, hd, e1]
  unfold keyOf
  rw [hk]
  simp only [hkey, hfm, Bool.and_self, if_true]
  show ((P.keyLits (P.types.size + 1) k [Value.int q a]).map _) = _
  rw [e2]; rfl
theorem wf_u32 {a : Int} (h0 : 0 ≤ a) (h1 : a < 4294967296) : (Lit.int .u32 a).wf = true := WalkArith.wf_u32 (by omega)
/-- The key of a number. -/
def ek (a : Int) : Value := .agg #[.int .u32 a]
def ok32 (a : Int) : Prop := 0 ≤ a ∧ a < 4294967296
theorem ek_inj (i j : Int) (h : ek i = ek j) : i = j := by unfold ek at h; simpa using h
theorem laidT : laidOutB Try.prog = true := by kernel_rfl
theorem sizeT : Try.prog.types.size = (Try.prog.types.size - 1) + 1 := by kernel_rfl
theorem placeLaw : Maps.Keyed Try.prog 85 :=
  Maps.Keyed.of_law (deep_law_laid laidT (m := 2) (by omega) (of_decide_eq_true (by kernel_rfl)) (by kernel_rfl) (by rw [Try.underlying85]))
theorem placeKey : KeyE Try.prog 85 ek ok32 :=
  ⟨placeLaw, fun i h => key_one Try.underlying85 Try.underlying26 rfl (by decide) sizeT (by kernel_rfl) (by kernel_rfl) (by kernel_rfl) (wf_u32 h.1 h.2), ek_inj⟩
theorem pageLaw : Maps.Keyed Try.prog 124 :=
  Maps.Keyed.of_law (deep_law_laid laidT (m := 2) (by omega) (of_decide_eq_true (by kernel_rfl)) (by kernel_rfl) (by rw [Try.underlying124]))
theorem pageKey : KeyE Try.prog 124 ek ok32 :=
  ⟨pageLaw, fun i h => key_one Try.underlying124 Try.underlying26 rfl (by decide) sizeT (by kernel_rfl) (by kernel_rfl) (by kernel_rfl) (wf_u32 h.1 h.2), ek_inj⟩
end Go.Proofs.Ytafegmmcgghgaaa.B
