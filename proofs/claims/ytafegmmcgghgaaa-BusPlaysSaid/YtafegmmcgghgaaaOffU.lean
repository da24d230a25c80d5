/- Rows of numbers of 32 bits that a call makes by append. -/
import Derived.Test.YtafegmmcgghgaaaFile
import Derived.Test.YtafegmmcgghgaaaRng
import Derived.Test.YtafegmmcgghgaaaSrt
import Derived.OwnWalk
namespace Go.Proofs.Ytafegmmcgghgaaa.B
set_option linter.unusedVariables false
set_option linter.unusedSimpArgs false
open Go.ChangeShapes Go.WideShapes Go.RowKit Go.Sort Go.MapKept
def unInt : Value → Int
  | .int _ n => n
  | _ => 0
def un32 : Value → Int
  | .agg a => unInt (a.toList.headD (.int .u32 0))
  | _ => 0
theorem un32_ek (x : Int) : un32 (ek x) = x := rfl
theorem infoU : (Try.prog.info? 26).map (fun i => (i.zero, i.size, i.bytes)) = some (some (.int .u32 0), 1, 4) := by kernel_rfl
/-- A slice of the call's own that holds these numbers. -/
def OwnU (w : World) (B : Nat) (v : Value) (xs : List Int) : Prop := w.ownsRow B 26 1 v xs.length (xs.map (Value.int .u32))
theorem own_off {w w' : World} {B : Nat} {v : Value} {xs : List Int} (h : OwnU w B v xs) {S : Nat → Prop} (ho : Off S w w') (hs : ∀ k, S k → k < B ∨ w.heap.size ≤ k ∨ v.ownBlock ≠ some k) : OwnU w' B v xs := by
  refine ⟨h.1, ?_⟩
  rcases h.2 with h1 | ⟨g, cap, cur, h1, h2, h3, h4⟩
  · exact .inl h1
  · have hlt := lt_of_block h3
    refine .inr ⟨g, cap, cur, h1, h2, ho.at h3 (fun hg => ?_), h4⟩
    rcases hs g hg with c | c | c
    · omega
    · omega
    · exact c (by rw [h1]; rfl)
section
variable {ops : Array Oper} {rest : List Oper} {o : Oper} {a : Act} {w : World} {Q : Exit → Act → World → Prop}
theorem appendU (hgd : o.guard = none) (s x : Operand) (ho : o.op = .call { callee := .builtin .append, args := #[s, x], argTypes := #[96, 96] })
    {B g : Nat} {v : Value} {xs : List Int} {y : Int} (hs : a.eval s = v) (hO : OwnU w B v xs) (hx : a.eval x = .slice (some ⟨g, 0, none⟩) 1 1) (hy : w.cell? ⟨g, 0, none⟩ = some (.int .u32 y)) (hk : xs.length < 100000) (hB : B ≤ w.heap.size)
    (h : ∀ v' w', OwnU w' B v' (xs ++ [y]) → Off (fun b => v.ownBlock = some b) w w' → wpList Try.prog ops Q rest (a.put o.dst v') w') : wpList Try.prog ops Q (o :: rest) a w := by
  obtain ⟨i0, hi, hz0, hz1, hz2⟩ := info_parts infoU
  refine wpList_append_own w hgd s x _ ho B 26 i0 _ 1 4 Try.underlying96 hi hz0 hz1 hz2 rfl (by decide) v xs.length _ hs hO ⟨g, 0, none⟩ 1 1 [.int .u32 y] hx rfl (fun j u hu => ?_) (fun u hu => ?_) (by unfold maxLen; omega) (by omega) hB fun v' w' h3 h4 _ => ?_
  · cases j with
    | zero => simp at hu; subst hu; simpa [Addr.add_lit] using hy
    | succ j => simp at hu
  · simp at hu; subst hu; rfl
  · refine h v' w' ?_ (Off.ofGrown h4 fun k e => e)
    unfold OwnU
    simpa using h3
end
/-- Sorted, or of no length. -/
theorem OwnU.cases {w : World} {B : Nat} {v : Value} {xs : List Int} (h : OwnU w B v xs) : (v = .slice none 0 0 ∧ xs = []) ∨ ∃ g cap, v = .slice (some ⟨g, 0, none⟩) xs.length cap ∧ B ≤ g ∧ xs.length ≤ cap ∧ cap ≤ maxLen ∧ DAt w g xs.toArray := by
  rcases h.2 with ⟨h1, h2⟩ | ⟨g, cap, cur, rfl, hB, hg, hnc, hcm, hcs, htk⟩
  · exact .inl ⟨h1, List.eq_nil_of_length_eq_zero h2⟩
  · refine .inr ⟨g, cap, rfl, hB, hnc, hcm, ⟨fun j hj => ?_, fun j hj => blk_free hg j, lt_of_block hg⟩⟩
    have hj' : j < xs.length := by simpa using hj
    rw [h.cellAt j (by omega)]
    simp [hj']
end Go.Proofs.Ytafegmmcgghgaaa.B
