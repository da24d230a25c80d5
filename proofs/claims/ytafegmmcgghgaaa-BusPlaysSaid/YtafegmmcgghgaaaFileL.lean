/- A file of registers: Load, Define. -/
import Derived.Test.YtafegmmcgghgaaaFile
namespace Go.Proofs.Ytafegmmcgghgaaa.B
set_option linter.unusedVariables false
set_option linter.unusedSimpArgs false
open Go.ChangeShapes Go.WideShapes Go.RowKit Go.Sort
theorem fLoadBad (off : Int) (fb : Nat) (w : World) (h0 : 0 ≤ off) (h : (off % 4 != 0) = true) :
    Calls Try.prog 9 #[.pointer (some ⟨fb, 0, none⟩), .int .u32 off] w fun e w' => e = .returned (.tuple #[.int .u32 0, .int .i64 11]) ∧ Below w.heap.size w w' := by
  go_enter Try.func9, Try.ntmps9
  go_wp2_with fail
  refine (fFindBad _ _ _ h0 h).mono ?_
  rintro e w1 ⟨rfl, hb⟩
  go_wp2_with fail
  go_ret2
  exact ⟨rfl, trA hb _⟩
theorem fLoadNone (off : Int) (f m : Nat) (M : List (Int × Rg)) (w : World) (h0 : 0 ≤ off) (h1 : off < 4294967296) (h : (off % 4 != 0) = false) (hF : FileAt w f m M) (hno : ∀ p ∈ M, p.1 ≠ off) :
    Calls Try.prog 9 #[.pointer (some ⟨f, 0, none⟩), .int .u32 off] w fun e w' => e = .returned (.tuple #[.int .u32 0, .int .i64 10]) ∧ Below w.heap.size w w' := by
  go_enter Try.func9, Try.ntmps9
  go_wp2_with fail
  refine (fFindNone _ _ _ M _ h0 h1 h hF hno).mono ?_
  rintro e w1 ⟨rfl, hb⟩
  go_wp2_with fail
  go_ret2
  exact ⟨rfl, trA hb _⟩
theorem fLoad (off : Int) (x : Rg) (f m : Nat) (M : List (Int × Rg)) (w : World) (h0 : 0 ≤ off) (h : (off % 4 != 0) = false) (hF : FileAt w f m M) (hin : (off, x) ∈ M) :
    Calls Try.prog 9 #[.pointer (some ⟨f, 0, none⟩), .int .u32 off] w fun e w' => e = .returned (.tuple #[.int .u32 x.v, .int .i64 0]) ∧ Below w.heap.size w w' := by
  go_enter Try.func9, Try.ntmps9
  go_wp2_with fail
  refine (fFind _ x _ _ M _ h0 h hF hin).mono ?_
  rintro e w1 ⟨rfl, hb⟩
  unfold Rg.val
  go_wp2_with fail
  go_ret2
  exact ⟨rfl, trA hb _⟩
theorem fDefineBad (off : Int) (x : Rg) (fb : Nat) (w : World) (h0 : 0 ≤ off) (h : (off % 4 != 0) = true) :
    Calls Try.prog 7 #[.pointer (some ⟨fb, 0, none⟩), .int .u32 off, x.val] w fun e w' => e = .returned (.int .i64 11) ∧ Below w.heap.size w w' := by
  unfold Rg.val
  go_enter Try.func7, Try.ntmps7
  go_wp2_with fail
  refine (fCheckBad _ _ _ h0 h).mono ?_
  rintro e w1 ⟨rfl, rfl⟩
  go_wp2_with fail
  go_ret
  exact ⟨rfl, trA (tr0 w) _⟩
theorem fDefineMeet (off : Int) (x y : Rg) (f m : Nat) (M : List (Int × Rg)) (w : World) (h0 : 0 ≤ off) (h : (off % 4 != 0) = false) (hF : FileAt w f m M) (hin : (off, y) ∈ M) :
    Calls Try.prog 7 #[.pointer (some ⟨f, 0, none⟩), .int .u32 off, x.val] w fun e w' => e = .returned (.int .i64 15) ∧ Below w.heap.size w w' := by
  obtain ⟨v, s, r, c⟩ := x
  obtain ⟨v2, s2, r2, c2⟩ := y
  have hc := blk_cell hF.cell 0
  simp only [List.getElem?_toArray, List.getElem?_cons_zero] at hc
  have hlt := hF.ltf
  have hM := (hF.map.kept (blk_old w (.cells #[.int .u32 v, .int .u32 s, .int .u32 r, .int .u32 c] 28) hF.ltm))
  have hin' := mem_val hin
  have HF := Lib.hid hF
  clear hF
  unfold Rg.val at hin' ⊢
  go_enter Try.func7, Try.ntmps7
  go_wp2_with fail
  refine (fCheck _ _ _ h0 h).mono ?_
  rintro e w1 ⟨rfl, rfl⟩
  go_wp2_with (at_lookup; refine wpList_hit_ok placeKey rfl _ _ _ rfl Try.underlying75 rfl hM off _ rfl hin' ?_)
  go_ret
  exact ⟨rfl, trA (trA (tr0 w) _) _⟩
/-- The file with a register more, or another one in its place. -/
def putF (off : Int) (x : Rg) (M : List (Int × Rg)) : List (Int × Rg) := (off, x) :: M.filter fun p => decide (p.1 ≠ off)
theorem putF_map (off : Int) (x : Rg) (M : List (Int × Rg)) : putM off x.val (M.map fun p => (p.1, p.2.val)) = (putF off x M).map fun p => (p.1, p.2.val) := by
  unfold putM putF
  rw [List.map_cons, List.filter_map]
  rfl
theorem putF_wf {off : Int} {x : Rg} {M : List (Int × Rg)} (h : ∀ p ∈ M, p.2.wf) (hx : x.wf) : ∀ p ∈ putF off x M, p.2.wf := fun p hp => by
  rcases List.mem_cons.1 hp with rfl | hp
  · exact hx
  · exact h p (List.mem_filter.1 hp).1
theorem putF_new {off : Int} {x : Rg} {M : List (Int × Rg)} (h : ∀ p ∈ M, p.1 ≠ off) : putF off x M = (off, x) :: M := by
  unfold putF
  rw [List.filter_eq_self.2 fun p hp => by simpa using h p hp]
theorem FileAt.put {w w' : World} {f m : Nat} {M : List (Int × Rg)} {off : Int} {x : Rg} (h : FileAt w f m M) (hx : x.wf) (hne : f ≠ m) (hm : mapP w' ek ok32 m (putM off x.val (M.map fun p => (p.1, p.2.val)))) (ho : w'.heap[f]? = w.heap[f]?) :
    FileAt w' f m (putF off x M) :=
  ⟨ho.trans h.cell, by rw [putF_map] at hm; exact hm, putF_wf h.wf hx⟩
theorem fDefine (off : Int) (x : Rg) (f m : Nat) (M : List (Int × Rg)) (w : World) (hx : x.wf) (h0 : 0 ≤ off) (h1 : off < 4294967296) (h : (off % 4 != 0) = false) (hF : FileAt w f m M) (hno : ∀ p ∈ M, p.1 ≠ off) :
    Calls Try.prog 7 #[.pointer (some ⟨f, 0, none⟩), .int .u32 off, x.val] w
      fun e w' => e = .returned (.int .i64 0) ∧ FileAt w' f m ((off, x) :: M) ∧ Off (· = m) w w' := by
  have hne : f ≠ m := fun e => by obtain ⟨_, _, hb, _⟩ := hF.map; rw [← e, hF.cell] at hb; cases hb
  obtain ⟨v, s, r, c⟩ := x
  have hc := blk_cell hF.cell 0
  simp only [List.getElem?_toArray, List.getElem?_cons_zero] at hc
  have hlt := hF.ltf
  have hM := (hF.map.kept (blk_old w (.cells #[.int .u32 v, .int .u32 s, .int .u32 r, .int .u32 c] 28) hF.ltm))
  have hno' := no_val hno
  have HF := Lib.hid hF
  clear hF
  unfold Rg.val
  go_enter Try.func7, Try.ntmps7
  go_wp2_with fail
  refine (fCheck _ _ _ h0 h).mono ?_
  rintro e w1 ⟨rfl, rfl⟩
  go_wp2_with (at_lookup; refine wpList_miss_ok placeKey rfl _ _ _ rfl Try.underlying75 rfl hM off _ rfl hno' ⟨h0, h1⟩ (zeroReg _) ?_)
  have hg := gcell
  have hf := gfrozen
  have hs2 : f < w.heap.size + 1 + 1 := by omega
  refine wp_region_tail_below 7 (by kernel_rfl) (by kernel_rfl) ?_
  simp only [List.take_succ_cons, List.take_zero, List.drop_succ_cons, List.drop_zero]
  repeat (go_big_quiet_step (fail))
  refine wpQuiet_nil ?_
  intro _ hw'
  obtain ⟨⟨dq, osq⟩, hw''⟩ := hw'
  subst hw''
  have hb2 := trG (trA (trA (tr0 w) (.cells #[.int .u32 v, .int .u32 s, .int .u32 r, .int .u32 c] 28)) (.cells #[.int .u32 0, .int .u32 0, .int .u32 0, .int .u32 0] 28)) dq osq
  have hM2 := HF.out.map.below hb2 HF.out.ltm
  go_wp2_with (at_mapUpdate; refine wpList_put placeKey rfl _ _ _ _ rfl Try.underlying75 rfl hM2 off _ rfl rfl ⟨h0, h1⟩ ?_; intro w3 hM3 ho3)
  go_ret
  refine ⟨rfl, ?_, (Off.ofBelow hb2).trans ho3⟩
  have := HF.out.put (x := ⟨v, s, r, c⟩) hx hne hM3 ((ho3.block f (Nat.lt_of_lt_of_le hlt hb2.size) hne).trans (hb2.block f hlt))
  rwa [putF_new hno] at this
end Go.Proofs.Ytafegmmcgghgaaa.B
