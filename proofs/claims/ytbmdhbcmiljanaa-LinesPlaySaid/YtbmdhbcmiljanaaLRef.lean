/- The document's own answers of layer 4: rows of truths. -/
import Derived.Test.YtbmdhbcmiljanaaArr
import Derived.Test.YtbmdhbcmiljanaaLines
import Derived.Test.YtbmdhbcmiljanaaBBit
namespace Go.Proofs.Ytbmdhbcmiljanaa.B
set_option linter.unusedVariables false
set_option linter.unusedSimpArgs false
open Go.ChangeShapes Go.WideShapes Go.RowKit Go.Sort
theorem i25 : (Try.prog.info? 25).map (·.size) = some 32 := by kernel_rfl
theorem i27 : (Try.prog.info? 27).map (·.size) = some 64 := by kernel_rfl
/-- A controller's 64 truths. -/
def lcs (f g : Nat → Bool) : List Value := bl f 32 ++ bl g 32
theorem lcs_len (f g : Nat → Bool) : (lcs f g).length = 64 := by unfold lcs; simp [bl_len]
theorem lcs_one (f g : Nat → Bool) : ∀ v ∈ lcs f g, v.oneCell' = true := by
  intro v h
  unfold lcs at h
  rcases List.mem_append.1 h with h | h
  · exact bl_one _ _ v h
  · exact bl_one _ _ v h
theorem lcs_left (f g : Nat → Bool) (i : Nat) (h : i < 32) : (lcs f g)[i]? = some (.bool (f i)) := by
  unfold lcs; rw [List.getElem?_append_left (by rw [bl_len]; exact h), bl_get _ _ _ h]
theorem lcs_right (f g : Nat → Bool) (i : Nat) (h : i < 32) : (lcs f g)[32 + i]? = some (.bool (g i)) := by
  unfold lcs; rw [List.getElem?_append_right (by rw [bl_len]; omega), bl_len, show 32 + i - 32 = i by omega, bl_get _ _ _ h]
theorem lcs_partL (f g : Nat → Bool) : PartAt (lcs f g).toArray 0 (bl f 32) := part_left _ _
theorem lcs_partR (f g : Nat → Bool) : PartAt (lcs f g).toArray 32 (bl g 32) := part_right _ _ 32 (bl_len f 32)
theorem lcs_setL (f g h : Nat → Bool) : spliced (lcs f g).toArray 0 (bl h 32) = (lcs h g).toArray := spliced_left _ _ _ (by rw [bl_len, bl_len])
theorem lcs_setR (f g h : Nat → Bool) : spliced (lcs f g).toArray 32 (bl h 32) = (lcs f h).toArray := spliced_right _ _ _ 32 (bl_len f 32) (by rw [bl_len, bl_len])
section
variable {ops : Array Oper} {rest : List Oper} {o : Oper} {a : Act} {w : World} {Q : Exit → Act → World → Prop}
theorem load25 (hgd : o.guard = none) (x : Operand) (ho : o.op = .load 25 x) (g off : Nat) (hx : a.eval x = .pointer (some ⟨g, off, none⟩)) {t : TypeId} {cs : Array Value} {fr : Nat × Nat} (f : Nat → Bool) (hg : w.heap[g]? = some (.cells cs t fr)) (hp : PartAt cs off (bl f 32))
    (h : wpList Try.prog ops Q rest (a.put o.dst (.agg (bl f 32).toArray)) w) : wpList Try.prog ops Q (o :: rest) a w :=
  wpList_load_part hgd _ x ho g off hx _ (bl f 32) hg Try.underlying25 rfl (by rw [bl_len]; exact i25) hp h
theorem load27 (hgd : o.guard = none) (x : Operand) (ho : o.op = .load 27 x) (b : Nat) (hx : a.eval x = .pointer (some ⟨b, 0, none⟩)) {t : TypeId} {fr : Nat × Nat} (f g : Nat → Bool) (hg : w.heap[b]? = some (.cells (lcs f g).toArray t fr))
    (h : wpList Try.prog ops Q rest (a.put o.dst (.agg (lcs f g).toArray)) w) : wpList Try.prog ops Q (o :: rest) a w :=
  wpList_load_part hgd _ x ho b 0 hx _ (lcs f g) hg Try.underlying27 rfl (by rw [lcs_len]; exact i27) (part_all _) h
theorem load27g (x : Operand) (ho : o.op = .load 27 x) (hw : Region.wanted o (yielded ops a.tmps) = true) (b : Nat) (hx : a.eval x = .pointer (some ⟨b, 0, none⟩)) {t : TypeId} {fr : Nat × Nat} (f g : Nat → Bool) (hg : w.heap[b]? = some (.cells (lcs f g).toArray t fr))
    (h : wpList Try.prog ops Q rest (a.put o.dst (.agg (lcs f g).toArray)) w) : wpList Try.prog ops Q (o :: rest) a w :=
  wpList_load_part_g _ x ho hw b 0 hx _ (lcs f g) hg Try.underlying27 rfl (by rw [lcs_len]; exact i27) (part_all _) h
theorem store25 (hgd : o.guard = none) (x y : Operand) (ho : o.op = .store 25 x y) (g off : Nat) (hx : a.eval x = .pointer (some ⟨g, off, none⟩)) (f : Nat → Bool) (hy : a.eval y = .agg (bl f 32).toArray) {t : TypeId} {cs : Array Value} (hg : w.heap[g]? = some (.cells cs t (0, 0))) (hl : off + 32 ≤ cs.size)
    (h : wpList Try.prog ops Q rest (a.put o.dst undef) (w.setRow g (spliced cs off (bl f 32)))) : wpList Try.prog ops Q (o :: rest) a w :=
  wpList_store_part hgd _ x y ho g off hx (bl f 32) hy hg (by rw [bl_len]; exact i25) (by rw [bl_len]; exact hl) (bl_one _ _) h
theorem store27 (hgd : o.guard = none) (x y : Operand) (ho : o.op = .store 27 x y) (b : Nat) (hx : a.eval x = .pointer (some ⟨b, 0, none⟩)) (f g : Nat → Bool) (hy : a.eval y = .agg (lcs f g).toArray) {t : TypeId} {cs : Array Value} (hg : w.heap[b]? = some (.cells cs t (0, 0))) (hl : cs.size = 64)
    (h : wpList Try.prog ops Q rest (a.put o.dst undef) (w.setRow b (lcs f g).toArray)) : wpList Try.prog ops Q (o :: rest) a w :=
  wpList_store_part hgd _ x y ho b 0 hx (lcs f g) hy hg (by rw [lcs_len]; exact i27) (by rw [lcs_len]; omega) (lcs_one _ _) (by rw [spliced_all _ _ (by rw [lcs_len]; exact hl)]; exact h)
theorem qload25 {C : World → Prop} {K : Act → Prop} (x : Operand) (ho : o.op = .load 25 x) (g off : Nat) (hx : a.eval x = .pointer (some ⟨g, off, none⟩)) {t : TypeId} {cs : Array Value} {fr : Nat × Nat} (f : Nat → Bool) (hg : ∀ w, C w → w.heap[g]? = some (.cells cs t fr)) (hp : PartAt cs off (bl f 32))
    (h : K (a.put o.dst (.agg (bl f 32).toArray))) : o.quiet Try.prog a C K :=
  quiet_load_part _ x ho g off hx _ (bl f 32) hg Try.underlying25 rfl (by rw [bl_len]; exact i25) hp h
theorem qload27 {C : World → Prop} {K : Act → Prop} (x : Operand) (ho : o.op = .load 27 x) (b : Nat) (hx : a.eval x = .pointer (some ⟨b, 0, none⟩)) {t : TypeId} {fr : Nat × Nat} (f g : Nat → Bool) (hg : ∀ w, C w → w.heap[b]? = some (.cells (lcs f g).toArray t fr))
    (h : K (a.put o.dst (.agg (lcs f g).toArray))) : o.quiet Try.prog a C K :=
  quiet_load_part _ x ho b 0 hx _ (lcs f g) hg Try.underlying27 rfl (by rw [lcs_len]; exact i27) (part_all _) h
end
theorem bl_cell {w : World} {b : Nat} {f : Nat → Bool} {t : TypeId} {fr : Nat × Nat} (h : w.heap[b]? = some (.cells (bl f 32).toArray t fr)) (k : Nat) (hk : k < 32) : w.cell? ⟨b, k, none⟩ = some (.bool (f k)) := by
  rw [cell_of_row w b k _ t fr h]; simpa using bl_get f 32 k hk
theorem lcs_cellL {w : World} {b : Nat} {f g : Nat → Bool} {t : TypeId} {fr : Nat × Nat} (h : w.heap[b]? = some (.cells (lcs f g).toArray t fr)) (k : Nat) (hk : k < 32) : w.cell? ⟨b, k, none⟩ = some (.bool (f k)) := by
  rw [cell_of_row w b k _ t fr h]; simpa using lcs_left f g k hk
theorem lcs_cellR {w : World} {b : Nat} {f g : Nat → Bool} {t : TypeId} {fr : Nat × Nat} (h : w.heap[b]? = some (.cells (lcs f g).toArray t fr)) (k : Nat) (hk : k < 32) : w.cell? ⟨b, 32 + k, none⟩ = some (.bool (g k)) := by
  rw [cell_of_row w b (32 + k) _ t fr h]; simpa using lcs_right f g k hk
theorem row_lt {w : World} {b : Nat} {o : Obj} (h : w.heap[b]? = some o) : b < w.heap.size := lt_of_block h
set_option maxHeartbeats 800000 in
theorem rWord (f : Nat → Bool) (w : World) :
    Calls Try.prog 24 #[.agg (bl f 32).toArray] w fun e w' => e = .returned (.int .u32 (ob f 32)) ∧ Below w.heap.size w w' := by
  go_enter Try.func24, Try.ntmps24
  go_wp2_with fail
  have hB := blk_new w (.cells (bl f 32).toArray 25)
  have hb : Below w.heap.size w (w.alloc (.cells (bl f 32).toArray 25)) := trA (tr0 w) _
  generalize (w.alloc (.cells (bl f 32).toArray 25)) = W at *
  have HB := Lib.hid hB
  clear hB
  go_loop [3, 4, 5] (fun out unit i => ∃ (k : Nat) (x y : Int), k ≤ 32 ∧ i = .int .i64 k ∧ out = .int .u32 x ∧ unit = .int .u32 y ∧ Hid (x = ob f k) ∧ Hid (y = un k)) (fun _ _ i => 32 - (intOf i).toNat)
  case atStart => exact ⟨0, _, _, by omega, rfl, rfl, rfl, Lib.hid rfl, Lib.hid rfl⟩
  case round =>
    obtain ⟨k, x, y, hk, rfl, rfl, rfl, hx, hy⟩ := hrel
    have u : 0 ≤ y ∧ y < 4294967296 := by rw [hy.out]; exact un_bounds k
    have o : 0 ≤ x ∧ x < 4294967296 := by rw [hx.out]; exact ob_bounds f k hk
    obtain ⟨u0, u1⟩ := u
    obtain ⟨o0, o1⟩ := o
    have hu := Lib.hid (un_succ k)
    by_cases hlt : k < 32
    · have ho : x + y < 4294967296 := by rw [hx.out, hy.out]; exact ob_un f k hlt
      have hc := bl_cell HB.out k hlt
      cases hs : f k
      · have hn := Lib.hid (ob_no f k hs)
        rw [hs] at hc
        have HS := Lib.hid hs
        clear hs
        go_wp2_with fail
        go_round
        case rel => exact ⟨k + 1, _, _, by omega, by go_num, rfl, rfl, Lib.hid (by rw [hn.out]; exact hx.out), Lib.hid (by rw [hu.out, ← hy.out])⟩
        case measure => simp [intOf]; omega
      · have hn := Lib.hid (ob_yes f k hlt hs)
        rw [hs] at hc
        have HS := Lib.hid hs
        clear hs
        go_wp2_with fail
        go_round
        case rel => exact ⟨k + 1, _, _, by omega, by go_num, rfl, rfl, Lib.hid (by rw [hn.out, ← hx.out, ← hy.out]), Lib.hid (by rw [hu.out, ← hy.out])⟩
        case measure => simp [intOf]; omega
    · go_wp2_with fail
      go_ret
      exact ⟨ret_int (by rw [hx.out, show k = 32 by omega]), hb⟩
end Go.Proofs.Ytbmdhbcmiljanaa.B
