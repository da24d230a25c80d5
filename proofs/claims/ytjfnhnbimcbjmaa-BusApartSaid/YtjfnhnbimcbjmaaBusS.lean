/- Package bus: reach, at a store. -/
import Derived.Test.YtjfnhnbimcbjmaaBusR
import Derived.Test.YtjfnhnbimcbjmaaFileS
namespace Go.Proofs.Ytjfnhnbimcbjmaa.B
set_option linter.unusedVariables false
set_option linter.unusedSimpArgs false
open Go.ChangeShapes Go.WideShapes Go.RowKit Go.Sort
set_option maxRecDepth 100000 in
/-- The same for a store. -/
theorem zReachS (p bm : Nat) (rv sv : Value) (R : List (Int × Int)) (L : List Seat) (a b s v : Int) (f vb : Nat) (D : Nat → Prop) (T : World → Prop) (w : World)
    (a0 : 0 ≤ a) (a1 : a < 4294967296) (h : (a % 4 != 0) = false) (hB : BusAt w p bm rv sv R L) (hfd : findL a L = (.agg #[.int .u32 b, .int .u32 s, .iface 38 (.pointer (some ⟨f, 0, none⟩))], 0)) (hb0 : 0 ≤ b) (hba : b ≤ a) (hDp : ¬ D p) (hDl : ∀ k, D k → k < w.heap.size)
    (hdev : ∀ w', Off (· = p) w w' → Calls Try.prog 34 #[.iface 38 (.pointer (some ⟨f, 0, none⟩)), .int .u32 (a - b), .pointer (some ⟨vb, 0, none⟩)] w' fun e w'' => e = .returned (.tuple #[.int .u32 v, .int .i64 0]) ∧ Off D w' w'' ∧ T w'')
    (hT : ∀ u u', T u → Off (fun k => k = p ∨ w.heap.size ≤ k) u u' → T u') :
    Calls Try.prog 32 #[.pointer (some ⟨p, 0, none⟩),   .int .u32 a, .func (.func 34) #[] #[.pointer (some ⟨vb, 0, none⟩)]] w fun e w' => e = .returned (.tuple #[.int .u32 v, .int .i64 0]) ∧ Off D w w' ∧ T w' := by
  have hmf : ∀ (fn : Fn) (first cap : Array Value) (w : World), (Instr.makeFunc fn first cap).run Try.prog w = .ok (.func fn first cap) w := fun _ _ _ _ => rfl
  go_enter_defers Try.func32, Try.ntmps32
  go_wp2_with fail
  refine (zFind a _ _ p bm rv sv R L _ a0 a1 h ?_ hfd).mono ?_
  · exact hB.ofBelow (trA (trA (trA (tr0 w) _) _) _)
  rintro e w1 ⟨rfl, hb1⟩
  have hP := blk_below hb1 ((b3_o w _ _ _ hB.ltp).trans hB.cell) (by rw [b3_s]; have := hB.ltp; omega)
  have hX0 := blk_below hb1 (b3_0 w _ _ _) (by rw [b3_s]; omega)
  have hX1 := blk_below hb1 (b3_1 w _ _ _) (by rw [b3_s]; omega)
  have hX2 := blk_below hb1 (b3_2 w _ _ _) (by rw [b3_s]; omega)
  have hx2 := blk_cell hX2 0
  simp only [List.getElem?_toArray, List.getElem?_cons_zero, List.getElem?_cons_succ] at hx2
  have hf2 := blk_free hX2 0
  have hl0 := lt_of_block hX0
  have hl1 := lt_of_block hX1
  have hl2 := lt_of_block hX2
  have hlp0 := hB.ltp
  have hlp := lt_of_block hP
  have hbw : Below w.heap.size w w1 := tr (trA (trA (trA (tr0 w) _) _) _) hb1
  have HX0 := Lib.hid hX0
  have HX1 := Lib.hid hX1
  have HX2 := Lib.hid hX2
  have HP := Lib.hid hP
  have HB := Lib.hid hB
  clear hX0 hX1 hX2 hb1 hP hB
  go_upto_region 2 with (fail)
  have hY0 := (blk_old (w1.setCell ⟨w.heap.size + 1 + 1, 0, none⟩ (.int .i64 0)) (.cells #[.int .u32 b, .int .u32 s, .iface 38 (.pointer (some ⟨f, 0, none⟩))] 86) (by simpa using hl0)).trans (blk_else HX0.out (w.heap.size + 1 + 1) 0 (.int .i64 0) (by omega))
  have hY1 := (blk_old (w1.setCell ⟨w.heap.size + 1 + 1, 0, none⟩ (.int .i64 0)) (.cells #[.int .u32 b, .int .u32 s, .iface 38 (.pointer (some ⟨f, 0, none⟩))] 86) (by simpa using hl1)).trans (blk_else HX1.out (w.heap.size + 1 + 1) 0 (.int .i64 0) (by omega))
  have hY2 := (blk_old (w1.setCell ⟨w.heap.size + 1 + 1, 0, none⟩ (.int .i64 0)) (.cells #[.int .u32 b, .int .u32 s, .iface 38 (.pointer (some ⟨f, 0, none⟩))] 86) (by simpa using hl2)).trans (blk_set HX2.out 0 (.int .i64 0))
  have hYP := (blk_old (w1.setCell ⟨w.heap.size + 1 + 1, 0, none⟩ (.int .i64 0)) (.cells #[.int .u32 b, .int .u32 s, .iface 38 (.pointer (some ⟨f, 0, none⟩))] 86) (by simpa using hlp)).trans (blk_else HP.out (w.heap.size + 1 + 1) 0 (.int .i64 0) (by omega))
  have hYS := blk_new (w1.setCell ⟨w.heap.size + 1 + 1, 0, none⟩ (.int .i64 0)) (.cells #[.int .u32 b, .int .u32 s, .iface 38 (.pointer (some ⟨f, 0, none⟩))] 86)
  have hbW : Below w.heap.size w ((w1.setCell ⟨w.heap.size + 1 + 1, 0, none⟩ (.int .i64 0)).alloc (.cells #[.int .u32 b, .int .u32 s, .iface 38 (.pointer (some ⟨f, 0, none⟩))] 86)) := trA (hbw.setCell (p := ⟨w.heap.size + 1 + 1, 0, none⟩) (by show w.heap.size ≤ w.heap.size + 1 + 1; omega) _) _
  generalize ((w1.setCell ⟨w.heap.size + 1 + 1, 0, none⟩ (.int .i64 0)).alloc (.cells #[.int .u32 b, .int .u32 s, .iface 38 (.pointer (some ⟨f, 0, none⟩))] 86)) = W at *
  have hY2 : W.heap[w.heap.size + 2]? = some (.cells #[.int .i64 0] 47 (0, 0)) := by simpa using hY2
  have hYS : W.heap[w1.heap.size]? = some (.cells #[.int .u32 b, .int .u32 s, .iface 38 (.pointer (some ⟨f, 0, none⟩))] 86 (0, 0)) := by simpa using hYS
  clear hx2 hf2 HX0 HX1 HX2 HP hbw
  have hx0 := blk_cell hY0 0
  have hx2 := blk_cell hY2 0
  have hp2 := blk_cell hYP 2
  have hs0 := blk_cell hYS 0
  have hs2 := blk_cell hYS 2
  simp only [List.getElem?_toArray, List.getElem?_cons_zero, List.getElem?_cons_succ] at hx0 hx2 hp2 hs0 hs2
  have hfp := blk_free hYP 2
  have hlq := lt_of_block hYS
  have hn1 : (p == w.heap.size) = false := by simp; omega
  have hn2 : (p == w1.heap.size) = false := by simp; omega
  have H0 := Lib.hid hY0
  have H1 := Lib.hid hY1
  have H2 := Lib.hid hY2
  have HP := Lib.hid hYP
  have HS := Lib.hid hYS
  clear hY0 hY1 hY2 hYP hYS
  go_upto_region 8 with (fail)
  clear hx0 hx2 hp2 hfp hn1 hn2
  go_wp2_with fail
  have ho1 : Off (· = p) w (W.setCell ⟨p, 2, none⟩ (.int .i64 1)) := (Off.ofBelow hbW).trans (Off.ofSetCell W ⟨p, 2, none⟩ _ rfl)
  refine (hdev _ ho1).mono ?_
  rintro e Z ⟨rfl, ho2, hTZ⟩
  have hZ0 := ho2.at (blk_else H0.out p 2 (.int .i64 1) (by omega)) (fun h => by have := hDl _ h; omega)
  have hZ1 := ho2.at (blk_else H1.out p 2 (.int .i64 1) (by omega)) (fun h => by have := hDl _ h; omega)
  have hZ2 := ho2.at (blk_else H2.out p 2 (.int .i64 1) (by omega)) (fun h => by have := hDl _ h; omega)
  have hZP := ho2.at (blk_set HP.out 2 (.int .i64 1)) hDp
  have hz1 := blk_cell hZ1 0
  have hz2 := blk_cell hZ2 0
  simp only [List.getElem?_toArray, List.getElem?_cons_zero, List.getElem?_cons_succ] at hz1 hz2
  have hfz1 := blk_free hZ1 0
  have hfz2 := blk_free hZ2 0
  have G0 := Lib.hid hZ0
  have G1 := Lib.hid hZ1
  have G2 := Lib.hid hZ2
  have GP := Lib.hid hZP
  have O1 := Lib.hid ho1
  have O2 := Lib.hid ho2
  clear hZ0 hZ1 hZ2 hZP ho1 ho2 hdev H0 H1 H2 HS
  go_wp2_with fail
  have hQ0 := blk_else (blk_else G0.out (w.heap.size + 1) 0 (.int .u32 v) (by omega)) (w.heap.size + 1 + 1) 0 (.int .i64 0) (by omega)
  have hQ1 := blk_else (blk_set G1.out 0 (.int .u32 v)) (w.heap.size + 1 + 1) 0 (.int .i64 0) (by omega)
  have hQ2 := blk_set (blk_else G2.out (w.heap.size + 1) 0 (.int .u32 v) (by omega)) 0 (.int .i64 0)
  have hQP := blk_else (blk_else GP.out (w.heap.size + 1) 0 (.int .u32 v) (by omega)) (w.heap.size + 1 + 1) 0 (.int .i64 0) (by omega)
  have hOY : Off (fun k => k = p ∨ D k) w (((Z.setCell ⟨w.heap.size + 1, 0, none⟩ (.int .u32 v)).setCell ⟨w.heap.size + 1 + 1, 0, none⟩ (.int .i64 0))) := by
    refine ((O1.out.andThen O2.out (U := fun k => k = p ∨ D k) (fun _ _ h => .inl h) (fun _ _ h => .inr h)).andThen (T := (· = w.heap.size + 1)) (Off.ofSetCell _ _ _ rfl) (fun _ _ h => h) (fun i hi h => by omega)).andThen (T := (· = w.heap.size + 1 + 1)) (Off.ofSetCell _ _ _ rfl) (fun _ _ h => h) (fun i hi h => by omega)
  refine leaves_cons (f := 47) (args := #[.pointer (some ⟨w.heap.size, 0, none⟩), .pointer (some ⟨w.heap.size + 1 + 1, 0, none⟩), .pointer (some ⟨w.heap.size + 1, 0, none⟩)]) (by simp) (by simp [go_sem]) ?_
  refine (zDefer0 w.heap.size (w.heap.size + 1 + 1) (w.heap.size + 1) p _ ?_ ?_ ?_ ?_ ?_).mono ?_
  · simpa using blk_cell hQ0 0
  · simpa using blk_cell hQP 2
  · exact blk_free hQP 2
  · simpa using blk_cell hQ2 0
  · omega
  rintro e u' Y ⟨rfl, rfl, rfl⟩
  refine reach_ret (Q := fun w' => Off D w w' ∧ T w') rfl rfl (blk_else hQ1 p 2 _ (by omega)) (blk_else hQ2 p 2 _ (by omega)) ?_
  refine ⟨(hOY.andThen (Off.ofSetCell _ ⟨p, 2, none⟩ (.int .i64 0) (S := (· = p)) rfl) (U := fun k => k = p ∨ D k) (fun _ _ h => h) (fun _ _ h => .inl h)).restored ?_, hT _ _ hTZ ((Off.ofSetCell _ _ _ ?_).trans ((Off.ofSetCell _ _ _ ?_).trans (Off.ofSetCell _ _ _ ?_)))⟩
  · rintro k hk (rfl | hD) hnD
    · have h1 := blk_set hQP 2 (.int .i64 0)
      rw [HB.out.cell]
      simpa using h1
    · exact absurd hD hnD
  · right; show w.heap.size ≤ w.heap.size + 1; omega
  · right; show w.heap.size ≤ w.heap.size + 1 + 1; omega
  · left; rfl
end Go.Proofs.Ytjfnhnbimcbjmaa.B
