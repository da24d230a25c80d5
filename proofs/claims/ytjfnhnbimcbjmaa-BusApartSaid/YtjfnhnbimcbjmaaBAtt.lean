/- Package bus: New, Attach, Regions. -/
import Derived.Test.YtjfnhnbimcbjmaaBPut
namespace Go.Proofs.Ytjfnhnbimcbjmaa.B
set_option linter.unusedVariables false
set_option linter.unusedSimpArgs false
open Go.ChangeShapes Go.WideShapes Go.RowKit Go.Sort Go.Shelf
theorem zNew (w : World) :
    Calls Try.prog 13 #[] w fun e w' => e = .returned (.pointer (some ⟨w.heap.size + 1, 0, none⟩)) ∧ BusAt w' (w.heap.size + 1) w.heap.size (.slice none 0 0) (.slice none 0 0) [] [] ∧ Below w.heap.size w w' := by
  have hmm := @run_makeMap Try.prog
  go_enter Try.func13, Try.ntmps13
  go_wp2_with fail
  go_ret
  refine ⟨rfl, ⟨?_, World.ownsRow_nil _ _ _ _, ?_, World.ownsRow_nil _ _ _ _, fun _ h => (by cases h), fun _ => rfl⟩, (((Below.refl _ _).alloc (Nat.le_refl _) _).alloc (by simp) _)⟩
  · exact b2_1 w _ _
  · rw [if_pos rfl]; exact (mapP_made w ek ok32).kept (blk_old _ _ (by simp))
/-- Nil devices, nil buses. -/
theorem zAttachNil (b s : Int) (D : Value) (hD : ∃ t v, D = .iface t v) (w : World) :
    Calls Try.prog 16 #[.pointer none, .agg #[.int .u32 b, .int .u32 s], D] w fun e w' => e = .returned (.int .i64 1) ∧ Below w.heap.size w w' := by
  obtain ⟨t, v, rfl⟩ := hD
  go_enter Try.func16, Try.ntmps16
  go_wp2_with fail
  go_ret
  exact ⟨rfl, trA (tr0 w) _⟩
/-- A region that is no region. -/
theorem zAttachBad (p : Nat) (b s E : Int) (f : Nat) (w : World) (hE : (E != 0) = true)
    (hc : ∀ w', Calls Try.prog 28 #[.agg #[.int .u32 b, .int .u32 s]] w' fun e w'' => e = .returned (.int .i64 E) ∧ Below w'.heap.size w' w'') :
    Calls Try.prog 16 #[.pointer (some ⟨p, 0, none⟩), .agg #[.int .u32 b, .int .u32 s], .iface 38 (.pointer (some ⟨f, 0, none⟩))] w fun e w' => e = .returned (.int .i64 E) ∧ Below w.heap.size w w' := by
  go_enter Try.func16, Try.ntmps16
  go_wp2_with fail
  refine (hc _).mono ?_
  rintro e w1 ⟨rfl, hb⟩
  go_wp2_with fail
  go_ret
  exact ⟨rfl, tr (trA (tr0 w) _) hb⟩
theorem zAttachMany (p bm : Nat) (rv sv : Value) (R : List (Int × Int)) (L : List Seat) (b s : Int) (f : Nat) (w : World) (hB : BusAt w p bm rv sv R L) (hn : 64 ≤ R.length)
    (b0 : 0 ≤ b) (b1 : b < 4294967296) (s0 : 0 ≤ s) (s1 : s < 4294967296) (h1 : (b % 4 != 0) = false) (h2 : (s % 4 != 0) = false) (h3 : (s == 0) = false) (h4 : b + s ≤ 4294967296) :
    Calls Try.prog 16 #[.pointer (some ⟨p, 0, none⟩), .agg #[.int .u32 b, .int .u32 s], .iface 38 (.pointer (some ⟨f, 0, none⟩))] w fun e w' => e = .returned (.int .i64 6) ∧ Below w.heap.size w w' := by
  go_enter Try.func16, Try.ntmps16
  go_wp2_with fail
  refine (zCheck b s _ b0 b1 s0 s1 h1 h2 h3 h4).mono ?_
  rintro e w1 ⟨rfl, hb1⟩
  have hX := blk_below hb1 (blk_new w _) (by simp)
  have hx0 := blk_cell hX 0
  have hx1 := blk_cell hX 1
  simp only [List.getElem?_toArray, List.getElem?_cons_zero, List.getElem?_cons_succ] at hx0 hx1
  have hbw := tr (trA (tr0 w) _) hb1
  clear hX hb1
  go_wp2_with fail
  refine (zRoomMany p bm rv sv R L b s _ (hB.ofBelow hbw) hn).mono ?_
  rintro e w2 ⟨rfl, hb2⟩
  go_wp2_with fail
  go_ret
  exact ⟨rfl, tr hbw hb2⟩
theorem zAttach (p bm : Nat) (rv sv : Value) (R : List (Int × Int)) (L : List Seat) (b s : Int) (f : Nat) (w : World) (hB : BusAt w p bm rv sv R L) (hn : R.length < 64) (hl : L.length = R.length) (hx : Seat.wf ⟨b, s, f⟩)
    (hR : ∀ x ∈ R, (0 ≤ x.1 ∧ x.1 < 4294967296) ∧ 0 ≤ x.2 ∧ x.2 < 4294967296) (hm : anyMeet b s R = false) (h1 : (b % 4 != 0) = false) (h2 : (s % 4 != 0) = false) :
    Calls Try.prog 16 #[.pointer (some ⟨p, 0, none⟩), .agg #[.int .u32 b, .int .u32 s], .iface 38 (.pointer (some ⟨f, 0, none⟩))] w fun e w' => e = .returned (.int .i64 0) ∧ PutSo p bm rv sv R L ⟨b, s, f⟩ w w' := by
  have hx' := hx
  obtain ⟨x0, x1, x2⟩ := hx'
  simp only at x0 x1 x2
  have h3 : (s == 0) = false := by simp; omega
  have HR := Lib.hid hR
  have HM := Lib.hid hm
  clear hR hm
  go_enter Try.func16, Try.ntmps16
  go_wp2_with fail
  refine (zCheck b s _ x0 (by omega) (by omega) (by omega) h1 h2 h3 (by omega)).mono ?_
  rintro e w1 ⟨rfl, hb1⟩
  have hX := blk_below hb1 (blk_new w _) (by simp)
  have hx0 := blk_cell hX 0
  have hx1 := blk_cell hX 1
  simp only [List.getElem?_toArray, List.getElem?_cons_zero, List.getElem?_cons_succ] at hx0 hx1
  have hbw := tr (trA (tr0 w) _) hb1
  have hl1 := lt_of_block hX
  have HX := Lib.hid hX
  clear hX hb1
  go_wp2_with fail
  refine (zRoom p bm rv sv R L b s false _ (hB.ofBelow hbw) hn HR.out x0 (by omega) (by omega) (by omega) HM.out).mono ?_
  rintro e w2 ⟨rfl, hb2⟩
  have hX2 := blk_below hb2 HX.out hl1
  have hy0 := blk_cell hX2 0
  have hy1 := blk_cell hX2 1
  simp only [List.getElem?_toArray, List.getElem?_cons_zero, List.getElem?_cons_succ] at hy0 hy1
  have hbw2 := tr hbw hb2
  clear hX2 hb2
  simp only [Bool.false_eq_true, if_false]
  go_wp2_with fail
  refine (zPut p bm rv sv R L b s f _ (hB.ofBelow hbw2) hn hl hx).mono ?_
  rintro e w3 ⟨rfl, rv', sv', R', hB', hp', hs', ho', hk'⟩
  have HB := Lib.hid hB'
  have HP := Lib.hid hp'
  have HS := Lib.hid hs'
  have HO := Lib.hid ho'
  have HK := Lib.hid hk'
  clear hB' hp' hs' ho' hk'
  go_wp2_with fail
  go_ret
  exact ⟨rfl, rv', sv', R', HB.out, HP.out, HS.out, (Off.ofBelow hbw2).trans (HO.out.mono fun _ _ h => h), fun k hk => (HK.out k hk).imp id fun h => Nat.le_trans hbw2.size h⟩
end Go.Proofs.Ytjfnhnbimcbjmaa.B
