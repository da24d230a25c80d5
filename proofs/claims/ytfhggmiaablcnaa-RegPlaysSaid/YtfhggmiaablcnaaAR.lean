/- The document's file: a row of offsets and registers. -/
import Derived.Test.YtfhggmiaablcnaaFlat
import Derived.Test.YtfhggmiaablcnaaFile
import Derived.Test.YtfhggmiaablcnaaArr
import Derived.OwnWalk
namespace Go.Proofs.Ytfhggmiaablcnaa.B
set_option linter.unusedVariables false
set_option linter.unusedSimpArgs false
open Go.ChangeShapes Go.WideShapes Go.RowKit Go.Sort
abbrev tAt : TypeId := 81
def al (p : Int × Rg) : List Value := [.int .u32 p.1, .int .u32 p.2.v, .int .u32 p.2.s, .int .u32 p.2.r, .int .u32 p.2.c]
theorem al_len (p : Int × Rg) : (al p).length = 5 := rfl
theorem al_one (p : Int × Rg) : ∀ v ∈ al p, v.oneCell' = true := by
  intro v h
  simp only [al, List.mem_cons, List.not_mem_nil, or_false] at h
  rcases h with rfl | rfl | rfl | rfl | rfl <;> rfl
/-- A slice of these pairs. -/
def OwnA (w : World) (B : Nat) (v : Value) (L : List (Int × Rg)) : Prop := w.ownsRow B 81 5 v L.length (L.flatMap al)
section
variable {w w' : World} {B g cap : Nat} {v : Value} {L : List (Int × Rg)}
theorem ownA_nil (w : World) (B : Nat) : OwnA w B (.slice none 0 0) [] := World.ownsRow_nil w B _ 5
theorem OwnA.cases (h : OwnA w B v L) : (v = .slice none 0 0 ∧ L = []) ∨ ∃ g cap, v = .slice (some ⟨g, 0, none⟩) L.length cap ∧ B ≤ g ∧ L.length ≤ cap ∧ cap ≤ maxLen ∧ g < w.heap.size ∧ ∃ cur, w.heap[g]? = some (.cells cur 81 (0, 0)) := by
  rcases h.2 with ⟨h1, h2⟩ | ⟨g, cap, cur, h1, hB, hg, hnc, hcm, hcs, htk⟩
  · exact .inl ⟨h1, List.eq_nil_of_length_eq_zero h2⟩
  · exact .inr ⟨g, cap, h1, hB, hnc, hcm, lt_of_block hg, cur, hg⟩
theorem OwnA.below (h : OwnA w B v L) (hb : Below w.heap.size w w') : OwnA w' B v L := by
  refine ⟨h.1, ?_⟩
  rcases h.2 with h1 | ⟨g, cap, cur, h1, h2, h3, h4⟩
  · exact .inl h1
  · exact .inr ⟨g, cap, cur, h1, h2, blk_below hb h3 (lt_of_block h3), h4⟩
theorem OwnA.off {S : Nat → Prop} (h : OwnA w B v L) (ho : Off S w w') (hs : ∀ k, v.ownBlock = some k → ¬ S k) : OwnA w' B v L := by
  refine ⟨h.1, ?_⟩
  rcases h.2 with h1 | ⟨g, cap, cur, h1, h2, h3, h4⟩
  · exact .inl h1
  · exact .inr ⟨g, cap, cur, h1, h2, ho.at h3 (hs g (by rw [h1]; rfl)), h4⟩
theorem OwnA.base (h : OwnA w B v L) {C : Nat} (hC : ∀ k, v.ownBlock = some k → C ≤ k) : OwnA w C v L := by
  refine ⟨h.1, ?_⟩
  rcases h.2 with h1 | ⟨g, cap, cur, h1, h2, h3, h4⟩
  · exact .inl h1
  · exact .inr ⟨g, cap, cur, h1, hC g (by rw [h1]; rfl), h3, h4⟩
theorem OwnA.block (h : OwnA w B v L) {b : Nat} (hb : v.ownBlock = some b) : B ≤ b ∧ b < w.heap.size := World.ownsRow.lt h b hb
/-- Its block is of its type. -/
theorem OwnA.ty (h : OwnA w B v L) {b : Nat} (hb : v.ownBlock = some b) : ∃ cur, w.heap[b]? = some (.cells cur 81 (0, 0)) := by
  rcases h.2 with ⟨rfl, _⟩ | ⟨g, cap, cur, rfl, h2, h3, h4⟩
  · cases hb
  · cases hb; exact ⟨cur, h3⟩
theorem OwnA.cell (h : OwnA w B (.slice (some ⟨g, 0, none⟩) L.length cap) L) {i : Nat} {p : Int × Rg} (hp : L[i]? = some p) (j : Nat) (hj : j < 5) : w.cell? ⟨g, i * 5 + j, none⟩ = (al p)[j]? := row_cell (f := al) (n := 5) al_len h rfl hp j hj
end
theorem infoA : (Try.prog.info? 81).map (fun i => (i.zero, i.size, i.bytes)) = some (some (.agg (al (0, ⟨0, 0, 0, 0⟩)).toArray), 5, 20) := by kernel_rfl
section
variable {ops : Array Oper} {rest : List Oper} {o : Oper} {a : Act} {w : World} {Q : Exit → Act → World → Prop}
/-- One pair more, which lies in a block of its own. -/
theorem appendA (hgd : o.guard = none) (s x : Operand) (ho : o.op = .call { callee := .builtin .append, args := #[s, x], argTypes := #[25, 25] })
    {B g : Nat} {v : Value} {L : List (Int × Rg)} {p : Int × Rg} {ty : TypeId} {fr : Nat × Nat} (hs : a.eval s = v) (hO : OwnA w B v L) (hx : a.eval x = .slice (some ⟨g, 0, none⟩) 1 1) (hy : w.heap[g]? = some (.cells (al p).toArray ty fr)) (hk : L.length < 100000) (hB : B ≤ w.heap.size)
    (h : ∀ v' w', OwnA w' B v' (L ++ [p]) → Off (fun b => v.ownBlock = some b) w w' → wpList Try.prog ops Q rest (a.put o.dst v') w') : wpList Try.prog ops Q (o :: rest) a w := by
  obtain ⟨i0, hi, hz0, hz1, hz2⟩ := info_parts infoA
  refine wpList_append_own w hgd s x _ ho B 81 i0 _ 5 20 Try.underlying25 hi hz0 hz1 hz2 rfl (by decide) v L.length _ hs hO ⟨g, 0, none⟩ 1 1 (al p) hx rfl (fun j u hu => ?_) (al_one p) (by unfold maxLen; omega) (by omega) hB fun v' w' h3 h4 _ => ?_
  · rw [Addr.add_lit, Nat.zero_add, cell_of_row w g j _ _ _ hy]
    simpa using hu
  · refine h v' w' ?_ (Off.ofGrown h4 fun k e => e)
    unfold OwnA
    simpa using h3
/-- All of another row. -/
theorem appendAllA (hgd : o.guard = none) (s x : Operand) (ho : o.op = .call { callee := .builtin .append, args := #[s, x], argTypes := #[25, 25] })
    {B C g cap : Nat} {v : Value} {L : List (Int × Rg)} (hs : a.eval s = v) (hO : OwnA w B v []) (hx : a.eval x = .slice (some ⟨g, 0, none⟩) L.length cap) (hR : OwnA w C (.slice (some ⟨g, 0, none⟩) L.length cap) L) (hk : L.length < 100000) (hB : B ≤ w.heap.size)
    (h : ∀ v' w', OwnA w' B v' L → Off (fun b => v.ownBlock = some b) w w' → wpList Try.prog ops Q rest (a.put o.dst v') w') : wpList Try.prog ops Q (o :: rest) a w := by
  obtain ⟨i0, hi, hz0, hz1, hz2⟩ := info_parts infoA
  have hl : (L.flatMap al).length = L.length * 5 := flat_len al 5 al_len L
  refine wpList_append_own w hgd s x _ ho B 81 i0 _ 5 20 Try.underlying25 hi hz0 hz1 hz2 rfl (by decide) v 0 _ hs hO ⟨g, 0, none⟩ L.length cap (L.flatMap al) hx hl (fun j u hu => ?_) (fun u hu => ?_) (by unfold maxLen; omega) (by omega) hB fun v' w' h3 h4 _ => ?_
  · have hj : j < L.length * 5 := by rw [← hl]; exact (List.getElem?_eq_some_iff.1 hu).1
    rw [Addr.add_lit, Nat.zero_add, hR.cellAt j hj]
    exact hu
  · obtain ⟨p, _, hp⟩ := List.mem_flatMap.1 hu
    exact al_one p u hp
  · refine h v' w' ?_ (Off.ofGrown h4 fun k e => e)
    unfold OwnA
    simpa using h3
end
end Go.Proofs.Ytfhggmiaablcnaa.B
