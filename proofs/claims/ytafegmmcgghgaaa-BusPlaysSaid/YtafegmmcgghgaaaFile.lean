/- A file of registers: what each call of package reg does to one, by the list of its offsets and registers. -/
import Derived.Test.YtafegmmcgghgaaaKey
import Derived.Test.YtafegmmcgghgaaaTail
namespace Go.Proofs.Ytafegmmcgghgaaa.B
set_option linter.unusedVariables false
set_option linter.unusedSimpArgs false
open Go.ChangeShapes Go.WideShapes Go.RowKit Go.Sort
/-- A register. -/
structure Rg where
  v : Int
  s : Int
  r : Int
  c : Int
def Rg.val (x : Rg) : Value := .agg #[.int .u32 x.v, .int .u32 x.s, .int .u32 x.r, .int .u32 x.c]
def Rg.wf (x : Rg) : Prop := (0 ≤ x.v ∧ x.v < 4294967296) ∧ (0 ≤ x.s ∧ x.s < 4294967296) ∧ (0 ≤ x.r ∧ x.r < 4294967296) ∧ (0 ≤ x.c ∧ x.c < 4294967296)
/-- Block f is a file's, whose map is block m, and holds these registers. -/
structure FileAt (w : World) (f m : Nat) (M : List (Int × Rg)) : Prop where
  cell : w.heap[f]? = some (.cells #[.map (some m)] 77 (0, 0))
  map : mapP w ek ok32 m (M.map fun p => (p.1, p.2.val))
  wf : ∀ p ∈ M, p.2.wf
theorem FileAt.kept {w w' : World} {f m : Nat} {M : List (Int × Rg)} (h : FileAt w f m M) (h1 : w'.heap[f]? = w.heap[f]?) (h2 : w'.heap[m]? = w.heap[m]?) : FileAt w' f m M :=
  ⟨h1.trans h.cell, h.map.kept h2, h.wf⟩
theorem FileAt.ltf {w : World} {f m : Nat} {M : List (Int × Rg)} (h : FileAt w f m M) : f < w.heap.size := lt_of_block h.cell
theorem FileAt.ltm {w : World} {f m : Nat} {M : List (Int × Rg)} (h : FileAt w f m M) : m < w.heap.size := h.map.lt
theorem FileAt.off {S : Nat → Prop} {w w' : World} {f m : Nat} {M : List (Int × Rg)} (h : FileAt w f m M) (ho : Off S w w') (h1 : ¬ S f) (h2 : ¬ S m) : FileAt w' f m M :=
  h.kept (ho.block f h.ltf h1) (ho.block m h.ltm h2)
theorem FileAt.below {w w' : World} {f m : Nat} {M : List (Int × Rg)} (h : FileAt w f m M) (ho : Below w.heap.size w w') : FileAt w' f m M :=
  h.kept (ho.block f h.ltf) (ho.block m h.ltm)
theorem mem_val {M : List (Int × Rg)} {x : Int} {r : Rg} (h : (x, r) ∈ M) : (x, r.val) ∈ M.map fun p => (p.1, p.2.val) := List.mem_map.2 ⟨_, h, rfl⟩
theorem no_val {M : List (Int × Rg)} {x : Int} (h : ∀ p ∈ M, p.1 ≠ x) : ∀ p ∈ M.map (fun p => (p.1, p.2.val)), p.1 ≠ x := by
  intro p hp; obtain ⟨q, hq, rfl⟩ := List.mem_map.1 hp; exact h q hq
theorem zeroReg (w : World) : (zeroValue 28).run Try.prog w = .ok (.agg #[.int .u32 0, .int .u32 0, .int .u32 0, .int .u32 0]) w := by kernel_rfl
theorem fNew (w : World) :
    Calls Try.prog 5 #[] w fun e w' => e = .returned (.pointer (some ⟨w.heap.size + 1, 0, none⟩)) ∧ FileAt w' (w.heap.size + 1) w.heap.size [] ∧ Below w.heap.size w w' := by
  have hmm := @run_makeMap Try.prog
  go_enter Try.func5, Try.ntmps5
  go_wp2_with fail
  go_ret
  refine ⟨rfl, ⟨?_, ?_, fun _ h => by cases h⟩, (((Below.refl _ _).alloc (Nat.le_refl _) _).alloc (by simp) _)⟩
  · have := blk_new (w.alloc (.map #[] 0)) (.cells #[.map (some w.heap.size)] 77)
    simpa using this
  · exact (mapP_made w ek ok32).kept (blk_old _ _ (by simp))
theorem fCheck (off : Int) (fb : Nat) (w : World) (h0 : 0 ≤ off) (h : (off % 4 != 0) = false) :
    Calls Try.prog 31 #[.pointer (some ⟨fb, 0, none⟩), .int .u32 off] w fun e w' => e = .returned (.int .i64 0) ∧ w = w' := by
  go_enter Try.func31, Try.ntmps31
  go_wp2_with fail
  go_ret
  exact ⟨rfl, rfl⟩
theorem fCheckBad (off : Int) (fb : Nat) (w : World) (h0 : 0 ≤ off) (h : (off % 4 != 0) = true) :
    Calls Try.prog 31 #[.pointer (some ⟨fb, 0, none⟩), .int .u32 off] w fun e w' => e = .returned (.int .i64 11) ∧ w = w' := by
  go_enter Try.func31, Try.ntmps31
  go_wp2_with fail
  go_ret
  exact ⟨rfl, rfl⟩
theorem fFindBad (off : Int) (fb : Nat) (w : World) (h0 : 0 ≤ off) (h : (off % 4 != 0) = true) :
    Calls Try.prog 32 #[.pointer (some ⟨fb, 0, none⟩), .int .u32 off] w
      fun e w' => e = .returned (.tuple #[.agg #[.int .u32 0, .int .u32 0, .int .u32 0, .int .u32 0], .int .i64 11]) ∧ Below w.heap.size w w' := by
  go_enter Try.func32, Try.ntmps32
  go_wp2_with fail
  refine (fCheckBad _ _ _ h0 h).mono ?_
  rintro e w' ⟨rfl, rfl⟩
  go_wp2_with fail
  refine bodyPost_ret (v := .tuple #[.agg #[.int .u32 0, .int .u32 0, .int .u32 0, .int .u32 0], .int .i64 11]) ?_ rfl ?_
  · simp [results, Try.results32, go_sem]
  · exact ⟨rfl, trA (tr0 w) _⟩
theorem fFindNone (off : Int) (f m : Nat) (M : List (Int × Rg)) (w : World) (h0 : 0 ≤ off) (h1 : off < 4294967296) (h : (off % 4 != 0) = false) (hF : FileAt w f m M) (hno : ∀ p ∈ M, p.1 ≠ off) :
    Calls Try.prog 32 #[.pointer (some ⟨f, 0, none⟩), .int .u32 off] w
      fun e w' => e = .returned (.tuple #[.agg #[.int .u32 0, .int .u32 0, .int .u32 0, .int .u32 0], .int .i64 10]) ∧ Below w.heap.size w w' := by
  have hc := blk_cell hF.cell 0
  simp only [List.getElem?_toArray, List.getElem?_cons_zero] at hc
  have hlt := hF.ltf
  have hM := (hF.map.kept (blk_old w (.cells #[.int .u32 0, .int .u32 0, .int .u32 0, .int .u32 0] 28) hF.ltm))
  have hno' := no_val hno
  have HF := Lib.hid hF
  clear hF
  go_enter Try.func32, Try.ntmps32
  go_wp2_with fail
  refine (fCheck _ _ _ h0 h).mono ?_
  rintro e w' ⟨rfl, rfl⟩
  go_wp2_with (at_lookup; refine wpList_miss_ok placeKey rfl _ _ _ rfl Try.underlying75 rfl hM off _ rfl hno' ⟨h0, h1⟩ (zeroReg _) ?_)
  refine bodyPost_ret (v := .tuple #[.agg #[.int .u32 0, .int .u32 0, .int .u32 0, .int .u32 0], .int .i64 10]) ?_ rfl ?_
  · simp [results, Try.results32, go_sem]
  · exact ⟨rfl, trA (trA (tr0 w) _) _⟩
theorem fFind (off : Int) (x : Rg) (f m : Nat) (M : List (Int × Rg)) (w : World) (h0 : 0 ≤ off) (h : (off % 4 != 0) = false) (hF : FileAt w f m M) (hin : (off, x) ∈ M) :
    Calls Try.prog 32 #[.pointer (some ⟨f, 0, none⟩), .int .u32 off] w
      fun e w' => e = .returned (.tuple #[x.val, .int .i64 0]) ∧ Below w.heap.size w w' := by
  have hc := blk_cell hF.cell 0
  simp only [List.getElem?_toArray, List.getElem?_cons_zero] at hc
  have hlt := hF.ltf
  have hM := (hF.map.kept (blk_old w (.cells #[.int .u32 0, .int .u32 0, .int .u32 0, .int .u32 0] 28) hF.ltm))
  have hin' := mem_val hin
  have HF := Lib.hid hF
  clear hF
  obtain ⟨v, s, r, c⟩ := x
  unfold Rg.val at hin' ⊢
  go_enter Try.func32, Try.ntmps32
  go_wp2_with fail
  refine (fCheck _ _ _ h0 h).mono ?_
  rintro e w' ⟨rfl, rfl⟩
  go_wp2_with (at_lookup; refine wpList_hit_ok placeKey rfl _ _ _ rfl Try.underlying75 rfl hM off _ rfl hin' ?_)
  refine bodyPost_ret (v := .tuple #[.agg #[.int .u32 v, .int .u32 s, .int .u32 r, .int .u32 c], .int .i64 0]) ?_ rfl ?_
  · simp [results, Try.results32, go_sem]
  · exact ⟨rfl, trA (trA (tr0 w) _) _⟩
end Go.Proofs.Ytafegmmcgghgaaa.B
