/- The document's file: a register put at a place; with. -/
import Derived.Test.YtfhggmiaablcnaaAR1
import Derived.Deep.Cut
namespace Go.Proofs.Ytfhggmiaablcnaa.B
set_option linter.unusedVariables false
set_option linter.unusedSimpArgs false
open Go.ChangeShapes Go.WideShapes Go.RowKit Go.Sort
theorem iR2 : (Try.prog.info? 33).map (·.size) = some 4 := by kernel_rfl
theorem splice_flat (L : List (Int × Rg)) (i : Nat) (off : Int) (r r' : Rg) (cur : Array Value) (hi : L[i]? = some (off, r')) (ht : cur.toList.take (L.length * 5) = L.flatMap al) :
    (spliced cur (i * 5 + 1) [.int .u32 r.v, .int .u32 r.s, .int .u32 r.r, .int .u32 r.c]).toList.take (L.length * 5) = (L.set i (off, r)).flatMap al := by
  have hil : i < L.length := (List.getElem?_eq_some_iff.1 hi).1
  have hsp : L = L.take i ++ (off, r') :: L.drop (i + 1) := by
    have h1 := List.take_append_drop i L
    rw [List.drop_eq_getElem_cons hil] at h1
    rw [(List.getElem?_eq_some_iff.1 hi).2] at h1
    exact h1.symm
  have hst : L.set i (off, r) = L.take i ++ (off, r) :: L.drop (i + 1) := by
    rw [List.set_eq_take_append_cons_drop, if_pos hil]
  have hA : ((L.take i).flatMap al).length = i * 5 := by rw [flat_len al 5 al_len]; simp; omega
  have hF : L.flatMap al = (L.take i).flatMap al ++ (al (off, r') ++ (L.drop (i + 1)).flatMap al) := by
    conv => lhs; rw [hsp]
    rw [List.flatMap_append, List.flatMap_cons]
  have hG : (L.set i (off, r)).flatMap al = (L.take i).flatMap al ++ (al (off, r) ++ (L.drop (i + 1)).flatMap al) := by
    rw [hst, List.flatMap_append, List.flatMap_cons]
  have hlenG : ((L.set i (off, r)).flatMap al).length = L.length * 5 := by rw [flat_len al 5 al_len]; simp
  have hcur : cur.toList = (L.take i).flatMap al ++ (al (off, r') ++ ((L.drop (i + 1)).flatMap al ++ cur.toList.drop (L.length * 5))) := by
    conv => lhs; rw [← List.take_append_drop (L.length * 5) cur.toList]
    rw [ht, hF]; simp
  generalize hR : cur.toList.drop (L.length * 5) = R at hcur
  unfold spliced
  rw [hcur, ← hA, List.take_length_add_append, show ((L.take i).flatMap al).length + 1 + ([Value.int .u32 r.v, .int .u32 r.s, .int .u32 r.r, .int .u32 r.c] : List Value).length = ((L.take i).flatMap al).length + 5 by simp, List.drop_length_add_append]
  have h5 : (al (off, r') ++ ((L.drop (i + 1)).flatMap al ++ R)).drop 5 = (L.drop (i + 1)).flatMap al ++ R := rfl
  have h6 : (al (off, r') ++ ((L.drop (i + 1)).flatMap al ++ R)).take 1 = [.int .u32 off] := rfl
  rw [h5, h6]
  have h7 : ((L.take i).flatMap al ++ [Value.int .u32 off] ++ [Value.int .u32 r.v, .int .u32 r.s, .int .u32 r.r, .int .u32 r.c] ++ ((L.drop (i + 1)).flatMap al ++ R)) = (L.set i (off, r)).flatMap al ++ R := by
    rw [hG]; simp [al]
  show (List.take (L.length * 5) ((L.take i).flatMap al ++ [Value.int .u32 off] ++ [Value.int .u32 r.v, .int .u32 r.s, .int .u32 r.r, .int .u32 r.c] ++ ((L.drop (i + 1)).flatMap al ++ R))) = _
  rw [h7, ← hlenG, List.take_left']
  rfl
section
variable {ops : Array Oper} {rest : List Oper} {o : Oper} {a : Act} {w : World} {Q : Exit → Act → World → Prop}
theorem storeA (hgd : o.guard = none) (x y : Operand) (ho : o.op = .store 33 x y) {B g cap i : Nat} {L : List (Int × Rg)} {off : Int} {r r' : Rg} (hx : a.eval x = .pointer (some ⟨g, i * 5 + 1, none⟩)) (hy : a.eval y = r.val)
    (hO : OwnA w B (.slice (some ⟨g, 0, none⟩) L.length cap) L) (hi : L[i]? = some (off, r'))
    (h : ∀ w', OwnA w' B (.slice (some ⟨g, 0, none⟩) L.length cap) (L.set i (off, r)) → Off (· = g) w w' → wpList Try.prog ops Q rest (a.put o.dst undef) w') : wpList Try.prog ops Q (o :: rest) a w := by
  have hil : i < L.length := (List.getElem?_eq_some_iff.1 hi).1
  rcases hO.2 with ⟨h1, _⟩ | ⟨g', cap', cur, h1, hB, hg, hnc, hcm, hcs, htk⟩
  · cases h1
  · cases h1
    refine wpList_store_part hgd _ x y ho g (i * 5 + 1) hx [.int .u32 r.v, .int .u32 r.s, .int .u32 r.r, .int .u32 r.c] hy hg iR2 (by simp; omega) (fun v hv => ?_) (h _ ?_ ⟨rfl, rfl, rfl, by simp, fun b _ hs => setRow_other w g b _ hs⟩)
    · simp only [List.mem_cons, List.not_mem_nil, or_false] at hv
      rcases hv with rfl | rfl | rfl | rfl <;> rfl
    · have hln : (L.set i (off, r)).length = L.length := by simp
      refine ⟨flat_len al 5 al_len _, .inr ⟨g, cap, _, by rw [hln], hB, row_set _ hg, by rw [hln]; exact hnc, hcm, ?_, by rw [hln]; exact splice_flat L i off r r' cur hi htk⟩⟩
      simp [spliced]; omega
end
set_option maxRecDepth 100000 in
set_option maxHeartbeats 1600000 in
theorem aWith (off : Int) (i : Nat) (r r' : Rg) {B g cap : Nat} {L : List (Int × Rg)} {w : World} (hO : OwnA w B (.slice (some ⟨g, 0, none⟩) L.length cap) L) (hc : L.length ≤ cap) (hm : cap ≤ maxLen) (hi : L[i]? = some (off, r')) (hl : L.length < 100000) :
    Calls Try.prog 34 #[.slice (some ⟨g, 0, none⟩) L.length cap, .int .i64 i, r.val] w
      fun e w' => ∃ g' cap', e = .returned (.slice (some ⟨g', 0, none⟩) L.length cap') ∧ OwnA w' w.heap.size (.slice (some ⟨g', 0, none⟩) L.length cap') (L.set i (off, r)) ∧ L.length ≤ cap' ∧ cap' ≤ maxLen ∧ Below w.heap.size w w' := by
  have hil : i < L.length := (List.getElem?_eq_some_iff.1 hi).1
  unfold maxLen at hm
  have hb1 := trA (tr0 w) (.cells #[.int .u32 r.v, .int .u32 r.s, .int .u32 r.r, .int .u32 r.c] 33 (0, 0))
  have hX := blk_new w (.cells #[.int .u32 r.v, .int .u32 r.s, .int .u32 r.r, .int .u32 r.c] 33 (0, 0))
  have O1 := hO.below hb1
  have HI := Lib.hid hi
  clear hO hi
  unfold Rg.val
  go_enter Try.func34, Try.ntmps34
  go_upto_region 1 with (fail)
  have hs1 : w.heap.size < (w.alloc (.cells #[.int .u32 r.v, .int .u32 r.s, .int .u32 r.r, .int .u32 r.c] 33 (0, 0))).heap.size := lt_of_block hX
  generalize w.alloc (.cells #[.int .u32 r.v, .int .u32 r.s, .int .u32 r.r, .int .u32 r.c] 33 (0, 0)) = W at *
  have OO : OwnA (W.alloc (.cells #[] 81 (0, 0))) (w.heap.size + 1) (.slice (some ⟨W.heap.size, 0, none⟩) 0 0) [] := World.ownsRow_made (base := w.heap.size + 1) (e := 81) (size := 5) W #[] 0 (by omega) (by decide) rfl
  have hb2 := trA (tr0 W) (.cells #[] 81 (0, 0))
  have O2 := O1.below hb2
  have B2 := tr hb1 hb2
  have X2 := blk_below hb2 hX hs1
  have hB2s : w.heap.size + 1 ≤ (W.alloc (.cells #[] 81 (0, 0))).heap.size := by have := hb2.size; omega
  clear O1 hX hb1 hb2
  go_upto_region 2 with (refine appendAllA rfl (.tmp 8) (.tmp 9) rfl (v := .slice (some ⟨W.heap.size, 0, none⟩) 0 0) rfl OO rfl O2 hl hB2s ?_; intro v' W5 O5 ho5)
  have ho6 : Off (· = W.heap.size) (W.alloc (.cells #[] 81 (0, 0))) W5 := ho5.mono fun k _ e => (Option.some.inj e).symm
  have X5 := ho6.at X2 (fun e => by omega)
  have B5 := Off.toBelow B2 ho6 (fun b hb e => by omega) (Nat.le_refl _)
  clear OO O2 X2 B2 hB2s ho5 ho6
  rcases O5.cases with ⟨_, h0⟩ | ⟨g', cap', rfl, hg', hnc', hcm', hgl', _⟩
  · subst h0; simp at hil
  · unfold maxLen at hcm'
    have y0 := blk_cell X5 0
    have y1 := blk_cell X5 1
    have y2 := blk_cell X5 2
    have y3 := blk_cell X5 3
    simp only [List.getElem?_toArray, List.getElem?_cons_zero, List.getElem?_cons_succ] at y0 y1 y2 y3
    go_upto_region 3 with (refine storeA rfl (.tmp 15) (.tmp 13) rfl (r := r) rfl rfl O5 HI.out ?_; intro w6 O6 ho6)
    have B6 := Off.toBelow B5 ho6 (fun b hb e => by omega) (Nat.le_refl _)
    have O7 : OwnA w6 w.heap.size (.slice (some ⟨g', 0, none⟩) L.length cap') (L.set i (off, r)) := O6.base (fun k hk => by have := (O6.block hk).1; omega)
    clear O5 O6 ho6 B5 X5 y0 y1 y2 y3
    go_wp2_with fail
    go_ret
    exact ⟨g', cap', rfl, O7, hnc', by unfold maxLen; omega, B6⟩
end Go.Proofs.Ytfhggmiaablcnaa.B
