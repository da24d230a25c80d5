/- Several texts in one: Package bus: reach, Load, Store, Find. Package bus: reach, Load, Store, of any device. The plain numbers of layer 1 (bits): words, halves, digits, masks, fields: no Go, no program. The plain numbers of layer 2 (reg): words written, with bits set, with bits 0: no Go, no program. What each function of package reg that takes registers returns, in the plain numbers of RPlain. A file of registers: Store. Package bus: reach, at a store. Package bus: Load, Store, Find. Package bus: Load and Store of any device. -/
import Derived.Test.YtafegmmcgghgaaaKit
import Derived.Test.YtafegmmcgghgaaaFileL
import Derived.Test.YtafegmmcgghgaaaZA
import Derived.Defers
import Derived.Recover
import Derived.Deep.Cut
import Derived.Laws.BitsAllLaws
import Derived.RowKit
import Derived.Laws.BitsLemmas
import Derived.IntWalk
namespace Go.Proofs.Ytafegmmcgghgaaa.B
set_option linter.unusedVariables false
set_option linter.unusedSimpArgs false
open Go.ChangeShapes Go.WideShapes Go.RowKit Go.Sort
/-- The deferred closure, where the access told no error. -/
theorem zDefer0 (pb pe pv p : Nat) (w : World) (h0 : w.cell? ⟨pb, 0, none⟩ = some (.pointer (some ⟨p, 0, none⟩))) (h1 : w.cell? ⟨p, 2, none⟩ = some (.int .i64 1)) (h2 : w.frozen? ⟨p, 2, none⟩ = false)
    (h3 : w.cell? ⟨pe, 0, none⟩ = some (.int .i64 0)) (hne : pe ≠ p) :
    CallsD Try.prog 68 #[.pointer (some ⟨pb, 0, none⟩), .pointer (some ⟨pe, 0, none⟩), .pointer (some ⟨pv, 0, none⟩)] .returning w
      fun e u' w' => e = .returned (.tuple #[]) ∧ u' = .returning ∧ w' = w.setCell ⟨p, 2, none⟩ (.int .i64 0) := by
  refine callsD_of_wpS Try.func68 rfl fun c₀ cs hu => ?_
  have h4 : (w.setCell ⟨p, 2, none⟩ (.int .i64 0)).cell? ⟨pe, 0, none⟩ = some (.int .i64 0) := by
    rw [World.cell?_of_block (a := ⟨pe, 0, none⟩) (Below.heap_setCell w ⟨p, 2, none⟩ (.int .i64 0) pe hne)]; exact h3
  have hwr : IntKind.i64.wrap 0 = 0 := by decide
  apply wpS_seq
  apply wpS_region
  simp [wpOpsS, go_sem, recoverD, hu, Try.ntmps68, Exit.thenS, h0, h1, h2, hwr]
  apply wpS_seq
  apply wpS_seq
  apply wpS_region
  simp [wpOpsS, go_sem, recoverD, hu, Exit.thenS]
  refine wpS_cond (t := false) (by simp [Act.eval, Array.replicate]) ?_
  simp only [Bool.false_eq_true, if_false]
  refine wpS_of_wp (wp_skip ?_)
  simp only [Exit.thenS]
  apply wpS_seq
  apply wpS_region
  simp [wpOpsS, go_sem, Exit.thenS, h4]
  refine wpS_cond (t := false) (by simp [Act.eval, Array.replicate]) ?_
  simp only [Bool.false_eq_true, if_false]
  refine wpS_of_wp (wp_skip ?_)
  cases c₀
  simp_all [bodyPostS, results, Try.results68]
/-- The end of an access: what its two result cells hold is told. -/
theorem reach_ret {w Y : World} {tmps : Array Value} {v e : Int} (h6 : tmps[6]? = some (.pointer (some ⟨w.heap.size + 1, 0, none⟩))) (h7 : tmps[7]? = some (.pointer (some ⟨w.heap.size + 1 + 1, 0, none⟩)))
    (hY1 : Y.heap[w.heap.size + 1]? = some (.cells #[.int .u32 v] 26 (0, 0))) (hY2 : Y.heap[w.heap.size + 2]? = some (.cells #[.int .i64 e] 34 (0, 0))) {Q : World → Prop} (hQ : Q Y) :
    bodyPostD Try.prog Try.f52 (fun e' w' => e' = .returned (.tuple #[.int .u32 v, .int .i64 e]) ∧ Q w') Exit.ret { tmps := tmps, defers := [] } Y := by
  have hy1 := blk_cell hY1 0
  have hy2 := blk_cell hY2 0
  simp at hy1 hy2
  simp [bodyPostD, Leaves, settle, results, Try.results52, go_sem, h6, h7, hy1, hy2]
  exact hQ
/-- An access whose address has no device. -/
theorem zReachErr (pa : Option Addr) (a E : Int) (F : Value) (w : World) (hE : (E != 0) = true)
    (hf : ∀ w', Below w.heap.size w w' → Calls Try.prog 55 #[.pointer pa, .int .u32 a] w' fun e w'' => e = .returned (.tuple #[zeroSeatV, .int .i64 E]) ∧ Below w'.heap.size w' w'') :
    Calls Try.prog 52 #[.pointer pa, .int .u32 a, F] w fun e w' => e = .returned (.tuple #[.int .u32 0, .int .i64 E]) ∧ Below w.heap.size w w' := by
  have hmf : ∀ (fn : Fn) (first cap : Array Value) (w : World), (Instr.makeFunc fn first cap).run Try.prog w = .ok (.func fn first cap) w := fun _ _ _ _ => rfl
  unfold zeroSeatV at hf
  go_enter_defers Try.func52, Try.ntmps52
  go_wp2_with fail
  refine (hf _ (trA (trA (trA (tr0 w) _) _) _)).mono ?_
  rintro e w1 ⟨rfl, hb1⟩
  have hX0 := blk_below hb1 (b3_0 w _ _ _) (by rw [b3_s]; omega)
  have hX1 := blk_below hb1 (b3_1 w _ _ _) (by rw [b3_s]; omega)
  have hX2 := blk_below hb1 (b3_2 w _ _ _) (by rw [b3_s]; omega)
  have hx0 := blk_cell hX0 0
  have hx1 := blk_cell hX1 0
  have hx2 := blk_cell hX2 0
  simp only [List.getElem?_toArray, List.getElem?_cons_zero, List.getElem?_cons_succ] at hx0 hx1 hx2
  have hf1 := blk_free hX1 0
  have hf2 := blk_free hX2 0
  have hl1 := lt_of_block hX1
  have hl2 := lt_of_block hX2
  have hbw : Below w.heap.size w w1 := tr (trA (trA (trA (tr0 w) _) _) _) hb1
  have hn0 : (w.heap.size + 1 == w1.heap.size) = false := by simp; omega
  have HX0 := Lib.hid hX0
  have HX1 := Lib.hid hX1
  have HX2 := Lib.hid hX2
  clear hX0 hX1 hX2 hb1 hf
  go_wp2_with fail
  have hY1 := (blk_old (w1.setCell ⟨w.heap.size + 1 + 1, 0, none⟩ (.int .i64 E)) (.cells #[.int .u32 0, .int .u32 0, .nilIface] 109) (by simpa using hl1)).trans (blk_else HX1.out (w.heap.size + 1 + 1) 0 (.int .i64 E) (by omega))
  have hY2 := (blk_old (w1.setCell ⟨w.heap.size + 1 + 1, 0, none⟩ (.int .i64 E)) (.cells #[.int .u32 0, .int .u32 0, .nilIface] 109) (by simpa using hl2)).trans (blk_set HX2.out 0 (.int .i64 E))
  have hbW : Below w.heap.size w ((w1.setCell ⟨w.heap.size + 1 + 1, 0, none⟩ (.int .i64 E)).alloc (.cells #[.int .u32 0, .int .u32 0, .nilIface] 109)) := trA (hbw.setCell (by simp; omega) _) _
  generalize ((w1.setCell ⟨w.heap.size + 1 + 1, 0, none⟩ (.int .i64 E)).alloc (.cells #[.int .u32 0, .int .u32 0, .nilIface] 109)) = W at *
  clear hx0 hx1 hx2 hf1 hf2 HX0 HX1 HX2
  have hy1 := blk_cell hY1 0
  have hy2 := blk_cell hY2 0
  simp at hy1 hy2
  have hf1 := blk_free hY1 0
  have hf2 := blk_free hY2 0
  have HY1 := Lib.hid hY1
  have HY2 := Lib.hid hY2
  clear hY1 hY2
  go_region
  go_wp2_with fail
  exact reach_ret (Y := World.drew _) rfl rfl (blk_else (blk_set HY1.out 0 _) _ _ _ (by omega)) (blk_set (blk_else HY2.out _ _ _ (by omega)) 0 _) (trD ((hbW.setCell (p := ⟨w.heap.size + 1, 0, none⟩) (Nat.le_add_right _ _) _).setCell (p := ⟨w.heap.size + 1 + 1, 0, none⟩) (by show w.heap.size ≤ w.heap.size + 1 + 1; omega) _))
set_option maxRecDepth 100000 in
/-- An access that its device answers without an error: what the device is asked turns blocks of S alone. -/
theorem zReach (p bm : Nat) (rv sv : Value) (R : List (Int × Int)) (L : List Seat) (a b s v : Int) (f : Nat) (D : Nat → Prop) (T : World → Prop) (w : World)
    (a0 : 0 ≤ a) (a1 : a < 4294967296) (h : (a % 4 != 0) = false) (hB : BusAt w p bm rv sv R L) (hfd : findL a L = (.agg #[.int .u32 b, .int .u32 s, .iface 23 (.pointer (some ⟨f, 0, none⟩))], 0)) (hb0 : 0 ≤ b) (hba : b ≤ a) (hDp : ¬ D p) (hDl : ∀ k, D k → k < w.heap.size)
    (hdev : ∀ w', Off (· = p) w w' → Calls Try.prog 9 #[.pointer (some ⟨f, 0, none⟩), .int .u32 (a - b)] w' fun e w'' => e = .returned (.tuple #[.int .u32 v, .int .i64 0]) ∧ Off D w' w'' ∧ T w'')
    (hT : ∀ u u', T u → Off (fun k => k = p ∨ w.heap.size ≤ k) u u' → T u') :
    Calls Try.prog 52 #[.pointer (some ⟨p, 0, none⟩),   .int .u32 a, .func (.methodOf 105 "Load") #[] #[]] w fun e w' => e = .returned (.tuple #[.int .u32 v, .int .i64 0]) ∧ Off D w w' ∧ T w' := by
  have hmf : ∀ (fn : Fn) (first cap : Array Value) (w : World), (Instr.makeFunc fn first cap).run Try.prog w = .ok (.func fn first cap) w := fun _ _ _ _ => rfl
  go_enter_defers Try.func52, Try.ntmps52
  go_wp2_with fail
  refine (zFind a _ _ p bm rv sv R L _ a0 a1 h ?_ hfd).mono ?_
  · exact hB.ofBelow (trA (trA (trA (tr0 w) _) _) _)
  rintro e w1 ⟨rfl, hb1⟩
  have hP := blk_below hb1 ((b3_o w _ _ _ hB.ltp).trans hB.cell) (by rw [b3_s]; have := hB.ltp; omega)
  have hX0 := blk_below hb1 (b3_0 w _ _ _) (by rw [b3_s]; omega)
  have hX1 := blk_below hb1 (b3_1 w _ _ _) (by rw [b3_s]; omega)
  have hX2 := blk_below hb1 (b3_2 w _ _ _) (by rw [b3_s]; omega)
  have hx2 := blk_cell hX2 0
  simp only [List.getElem?_toArray, List.getElem?_cons_zero, List.getElem?_cons_succ] at hx2
  have hf2 := blk_free hX2 0
  have hl0 := lt_of_block hX0
  have hl1 := lt_of_block hX1
  have hl2 := lt_of_block hX2
  have hlp0 := hB.ltp
  have hlp := lt_of_block hP
  have hbw : Below w.heap.size w w1 := tr (trA (trA (trA (tr0 w) _) _) _) hb1
  have HX0 := Lib.hid hX0
  have HX1 := Lib.hid hX1
  have HX2 := Lib.hid hX2
  have HP := Lib.hid hP
  have HB := Lib.hid hB
  clear hX0 hX1 hX2 hb1 hP hB
  go_upto_region 2 with (fail)
  have hY0 := (blk_old (w1.setCell ⟨w.heap.size + 1 + 1, 0, none⟩ (.int .i64 0)) (.cells #[.int .u32 b, .int .u32 s, .iface 23 (.pointer (some ⟨f, 0, none⟩))] 109) (by simpa using hl0)).trans (blk_else HX0.out (w.heap.size + 1 + 1) 0 (.int .i64 0) (by omega))
  have hY1 := (blk_old (w1.setCell ⟨w.heap.size + 1 + 1, 0, none⟩ (.int .i64 0)) (.cells #[.int .u32 b, .int .u32 s, .iface 23 (.pointer (some ⟨f, 0, none⟩))] 109) (by simpa using hl1)).trans (blk_else HX1.out (w.heap.size + 1 + 1) 0 (.int .i64 0) (by omega))
  have hY2 := (blk_old (w1.setCell ⟨w.heap.size + 1 + 1, 0, none⟩ (.int .i64 0)) (.cells #[.int .u32 b, .int .u32 s, .iface 23 (.pointer (some ⟨f, 0, none⟩))] 109) (by simpa using hl2)).trans (blk_set HX2.out 0 (.int .i64 0))
  have hYP := (blk_old (w1.setCell ⟨w.heap.size + 1 + 1, 0, none⟩ (.int .i64 0)) (.cells #[.int .u32 b, .int .u32 s, .iface 23 (.pointer (some ⟨f, 0, none⟩))] 109) (by simpa using hlp)).trans (blk_else HP.out (w.heap.size + 1 + 1) 0 (.int .i64 0) (by omega))
  have hYS := blk_new (w1.setCell ⟨w.heap.size + 1 + 1, 0, none⟩ (.int .i64 0)) (.cells #[.int .u32 b, .int .u32 s, .iface 23 (.pointer (some ⟨f, 0, none⟩))] 109)
  have hbW : Below w.heap.size w ((w1.setCell ⟨w.heap.size + 1 + 1, 0, none⟩ (.int .i64 0)).alloc (.cells #[.int .u32 b, .int .u32 s, .iface 23 (.pointer (some ⟨f, 0, none⟩))] 109)) := trA (hbw.setCell (p := ⟨w.heap.size + 1 + 1, 0, none⟩) (by show w.heap.size ≤ w.heap.size + 1 + 1; omega) _) _
  generalize ((w1.setCell ⟨w.heap.size + 1 + 1, 0, none⟩ (.int .i64 0)).alloc (.cells #[.int .u32 b, .int .u32 s, .iface 23 (.pointer (some ⟨f, 0, none⟩))] 109)) = W at *
  have hY2 : W.heap[w.heap.size + 2]? = some (.cells #[.int .i64 0] 34 (0, 0)) := by simpa using hY2
  have hYS : W.heap[w1.heap.size]? = some (.cells #[.int .u32 b, .int .u32 s, .iface 23 (.pointer (some ⟨f, 0, none⟩))] 109 (0, 0)) := by simpa using hYS
  clear hx2 hf2 HX0 HX1 HX2 HP hbw
  have hx0 := blk_cell hY0 0
  have hx2 := blk_cell hY2 0
  have hp2 := blk_cell hYP 2
  have hs0 := blk_cell hYS 0
  have hs2 := blk_cell hYS 2
  simp only [List.getElem?_toArray, List.getElem?_cons_zero, List.getElem?_cons_succ] at hx0 hx2 hp2 hs0 hs2
  have hfp := blk_free hYP 2
  have hlq := lt_of_block hYS
  have hn1 : (p == w.heap.size) = false := by simp; omega
  have hn2 : (p == w1.heap.size) = false := by simp; omega
  have hm : ∀ (n : Nat) (w : World), (method (n + 1) 23 (.pointer (some ⟨f, 0, none⟩)) "Load").run Try.prog w = .ok (9, .pointer (some ⟨f, 0, none⟩)) w := fun _ _ => by kernel_rfl
  have H0 := Lib.hid hY0
  have H1 := Lib.hid hY1
  have H2 := Lib.hid hY2
  have HP := Lib.hid hYP
  have HS := Lib.hid hYS
  clear hY0 hY1 hY2 hYP hYS
  go_upto_region 8 with (fail)
  clear hx0 hx2 hp2 hfp hn1 hn2
  go_wp2_with fail
  have ho1 : Off (· = p) w (W.setCell ⟨p, 2, none⟩ (.int .i64 1)) := (Off.ofBelow hbW).trans (Off.ofSetCell W ⟨p, 2, none⟩ _ rfl)
  refine (hdev _ ho1).mono ?_
  rintro e Z ⟨rfl, ho2, hTZ⟩
  have hZ0 := ho2.at (blk_else H0.out p 2 (.int .i64 1) (by omega)) (fun h => by have := hDl _ h; omega)
  have hZ1 := ho2.at (blk_else H1.out p 2 (.int .i64 1) (by omega)) (fun h => by have := hDl _ h; omega)
  have hZ2 := ho2.at (blk_else H2.out p 2 (.int .i64 1) (by omega)) (fun h => by have := hDl _ h; omega)
  have hZP := ho2.at (blk_set HP.out 2 (.int .i64 1)) hDp
  have hz1 := blk_cell hZ1 0
  have hz2 := blk_cell hZ2 0
  simp only [List.getElem?_toArray, List.getElem?_cons_zero, List.getElem?_cons_succ] at hz1 hz2
  have hfz1 := blk_free hZ1 0
  have hfz2 := blk_free hZ2 0
  have G0 := Lib.hid hZ0
  have G1 := Lib.hid hZ1
  have G2 := Lib.hid hZ2
  have GP := Lib.hid hZP
  have O1 := Lib.hid ho1
  have O2 := Lib.hid ho2
  clear hZ0 hZ1 hZ2 hZP ho1 ho2 hdev H0 H1 H2 HS
  go_wp2_with fail
  have hQ0 := blk_else (blk_else G0.out (w.heap.size + 1) 0 (.int .u32 v) (by omega)) (w.heap.size + 1 + 1) 0 (.int .i64 0) (by omega)
  have hQ1 := blk_else (blk_set G1.out 0 (.int .u32 v)) (w.heap.size + 1 + 1) 0 (.int .i64 0) (by omega)
  have hQ2 := blk_set (blk_else G2.out (w.heap.size + 1) 0 (.int .u32 v) (by omega)) 0 (.int .i64 0)
  have hQP := blk_else (blk_else GP.out (w.heap.size + 1) 0 (.int .u32 v) (by omega)) (w.heap.size + 1 + 1) 0 (.int .i64 0) (by omega)
  have hOY : Off (fun k => k = p ∨ D k) w (((Z.setCell ⟨w.heap.size + 1, 0, none⟩ (.int .u32 v)).setCell ⟨w.heap.size + 1 + 1, 0, none⟩ (.int .i64 0))) := by
    refine ((O1.out.andThen O2.out (U := fun k => k = p ∨ D k) (fun _ _ h => .inl h) (fun _ _ h => .inr h)).andThen (T := (· = w.heap.size + 1)) (Off.ofSetCell _ _ _ rfl) (fun _ _ h => h) (fun i hi h => by omega)).andThen (T := (· = w.heap.size + 1 + 1)) (Off.ofSetCell _ _ _ rfl) (fun _ _ h => h) (fun i hi h => by omega)
  refine leaves_cons (f := 68) (args := #[.pointer (some ⟨w.heap.size, 0, none⟩), .pointer (some ⟨w.heap.size + 1 + 1, 0, none⟩), .pointer (some ⟨w.heap.size + 1, 0, none⟩)]) (by simp) (by simp [go_sem]) ?_
  refine (zDefer0 w.heap.size (w.heap.size + 1 + 1) (w.heap.size + 1) p _ ?_ ?_ ?_ ?_ ?_).mono ?_
  · simpa using blk_cell hQ0 0
  · simpa using blk_cell hQP 2
  · exact blk_free hQP 2
  · simpa using blk_cell hQ2 0
  · omega
  rintro e u' Y ⟨rfl, rfl, rfl⟩
  refine reach_ret (Q := fun w' => Off D w w' ∧ T w') rfl rfl (blk_else hQ1 p 2 _ (by omega)) (blk_else hQ2 p 2 _ (by omega)) ?_
  refine ⟨(hOY.andThen (Off.ofSetCell _ ⟨p, 2, none⟩ (.int .i64 0) (S := (· = p)) rfl) (U := fun k => k = p ∨ D k) (fun _ _ h => h) (fun _ _ h => .inl h)).restored ?_, hT _ _ hTZ ((Off.ofSetCell _ _ _ ?_).trans ((Off.ofSetCell _ _ _ ?_).trans (Off.ofSetCell _ _ _ ?_)))⟩
  · rintro k hk (rfl | hD) hnD
    · have h1 := blk_set hQP 2 (.int .i64 0)
      rw [HB.out.cell]
      simpa using h1
    · exact absurd hD hnD
  · right; show w.heap.size ≤ w.heap.size + 1; omega
  · right; show w.heap.size ≤ w.heap.size + 1 + 1; omega
  · left; rfl
end Go.Proofs.Ytafegmmcgghgaaa.B
namespace Go.Proofs.Ytafegmmcgghgaaa.B
set_option linter.unusedVariables false
set_option linter.unusedSimpArgs false
open Go.ChangeShapes Go.WideShapes Go.RowKit Go.Sort
/-- Two worlds with the same blocks. -/
structure Same (u w : World) : Prop where
  os : w.os = u.os
  tape : w.tape = u.tape
  output : w.output = u.output
  size : w.heap.size = u.heap.size
  block : ∀ k : Nat, w.heap[k]? = u.heap[k]?
theorem Same.refl (w : World) : Same w w := ⟨rfl, rfl, rfl, rfl, fun _ => rfl⟩
theorem Same.off {u w : World} (p j : Nat) (v : Value) (h : Same (u.setCell ⟨p, j, none⟩ v) w) : Off (· = p) u w := by
  have o := off_set u p j v
  exact ⟨h.os.trans o.os, h.tape.trans o.tape, h.output.trans o.output, by rw [h.size]; exact o.size, fun k hk hs => (h.block k).trans (o.block k hk hs)⟩
/-- A store of what is there. -/
theorem same_set {w : World} {b : Nat} {x : Value} {t : TypeId} (h : w.heap[b]? = some (.cells #[x] t (0, 0))) : Same w (w.setCell ⟨b, 0, none⟩ x) := by
  have hb := Below.setCell (Below.refl b w) (p := ⟨b, 0, none⟩) (Nat.le_refl _) x
  refine ⟨hb.os, hb.tape, hb.output, by simp, fun k => ?_⟩
  by_cases e : k = b
  · subst e; rw [blk_set h, h]; simp
  · exact Below.heap_setCell w ⟨b, 0, none⟩ x k e
theorem Same.trans {a b c : World} (h : Same a b) (k : Same b c) : Same a c := ⟨k.os.trans h.os, k.tape.trans h.tape, k.output.trans h.output, k.size.trans h.size, fun i => (k.block i).trans (h.block i)⟩
/-- The deferred closure. -/
theorem uDefer (pb pe pv p : Nat) (E v : Int) (w : World) (h0 : w.cell? ⟨pb, 0, none⟩ = some (.pointer (some ⟨p, 0, none⟩))) (h1 : w.cell? ⟨p, 2, none⟩ = some (.int .i64 1)) (h2 : w.frozen? ⟨p, 2, none⟩ = false)
    (h3 : w.cell? ⟨pe, 0, none⟩ = some (.int .i64 E)) (hne : pe ≠ p ∧ pv ≠ p) (h5 : w.heap[pv]? = some (.cells #[.int .u32 v] 26 (0, 0))) (hv : E ≠ 0 → v = 0) :
    CallsD Try.prog 68 #[.pointer (some ⟨pb, 0, none⟩), .pointer (some ⟨pe, 0, none⟩), .pointer (some ⟨pv, 0, none⟩)] .returning w
      fun e u' w' => e = .returned (.tuple #[]) ∧ u' = .returning ∧ Same (w.setCell ⟨p, 2, none⟩ (.int .i64 0)) w' := by
  by_cases hE : E = 0
  · subst hE
    exact (zDefer0 pb pe pv p w h0 h1 h2 h3 hne.1).mono fun e u' w' g => ⟨g.1, g.2.1, g.2.2 ▸ Same.refl _⟩
  · obtain rfl : v = 0 := hv hE
    refine callsD_of_wpS Try.func68 rfl fun c₀ cs hu => ?_
    have h4 : (w.setCell ⟨p, 2, none⟩ (.int .i64 0)).cell? ⟨pe, 0, none⟩ = some (.int .i64 E) := by
      rw [World.cell?_of_block (a := ⟨pe, 0, none⟩) (Below.heap_setCell w ⟨p, 2, none⟩ (.int .i64 0) pe hne.1)]; exact h3
    have h6 : (w.setCell ⟨p, 2, none⟩ (.int .i64 0)).heap[pv]? = some (.cells #[.int .u32 0] 26 (0, 0)) := blk_else h5 p 2 _ hne.2
    have h7 := blk_cell h6 0
    simp only [List.getElem?_toArray, List.getElem?_cons_zero] at h7
    have h8 := blk_free h6 0
    have HS := Lib.hid (same_set h6)
    have hwr : IntKind.i64.wrap 0 = 0 := by decide
    have hE1 : (E == 0) = false := by simpa using hE
    have hE2 : (E != 0) = true := by simpa using hE
    clear h5 h6
    apply wpS_seq
    apply wpS_region
    simp [wpOpsS, go_sem, recoverD, hu, Try.ntmps68, Exit.thenS, h0, h1, h2, hwr]
    apply wpS_seq
    apply wpS_seq
    apply wpS_region
    simp [wpOpsS, go_sem, recoverD, hu, Exit.thenS]
    refine wpS_cond (t := false) (by simp [Act.eval, Array.replicate]) ?_
    simp only [Bool.false_eq_true, if_false]
    refine wpS_of_wp (wp_skip ?_)
    simp only [Exit.thenS]
    apply wpS_seq
    apply wpS_region
    simp [wpOpsS, go_sem, Exit.thenS, h4, hE, hE1, hE2]
    refine wpS_cond (t := true) (by simp [Act.eval, Array.replicate]) ?_
    simp only [if_true]
    apply wpS_region
    simp [wpOpsS, go_sem, Exit.thenS, h7, h8]
    cases c₀
    simp_all [bodyPostS, results, Try.results68]
    exact HS.out
set_option maxRecDepth 100000 in
/-- An access that its device answers without an error: what the device is asked turns blocks of S alone. -/
theorem uReach (p bm : Nat) (rv : Value) (R : List (Int × Int)) (ks : List Int) (pv : Int → Value) (Lp : Int → List Su) (a b s v E : Int) (xt : TypeId) (xv : Value) (F : Nat) (D : Nat → Prop) (T : World → Prop) (w : World)
    (a0 : 0 ≤ a) (a1 : a < 4294967296) (h : (a % 4 != 0) = false) (hB : UBus w p bm rv R ks pv Lp) (hvE : E ≠ 0 → v = 0)
    (hm : ∀ (n : Nat) (w : World), (method (n + 1) xt xv "Load").run Try.prog w = .ok (F, xv) w) (heg : ∀ args w, (callFunc F args).run Try.prog w = .ok (.enter F args) w) (hfd : findU a (Lp (a / 16777216)) = (.agg #[.int .u32 b, .int .u32 s, .iface xt xv], 0)) (hb0 : 0 ≤ b) (hba : b ≤ a) (hDp : ¬ D p) (hDl : ∀ k, D k → k < w.heap.size)
    (hdev : ∀ w', Off (· = p) w w' → Calls Try.prog F #[xv, .int .u32 (a - b)] w' fun e w'' => e = .returned (.tuple #[.int .u32 v, .int .i64 E]) ∧ Off D w' w'' ∧ T w'')
    (hT : ∀ u u', T u → Off (fun k => k = p ∨ w.heap.size ≤ k) u u' → T u') :
    Calls Try.prog 52 #[.pointer (some ⟨p, 0, none⟩),   .int .u32 a, .func (.methodOf 105 "Load") #[] #[]] w fun e w' => e = .returned (.tuple #[.int .u32 v, .int .i64 E]) ∧ Off D w w' ∧ T w' := by
  have hmf : ∀ (fn : Fn) (first cap : Array Value) (w : World), (Instr.makeFunc fn first cap).run Try.prog w = .ok (.func fn first cap) w := fun _ _ _ _ => rfl
  go_enter_defers Try.func52, Try.ntmps52
  go_wp2_with fail
  refine (uFind a _ _ p bm rv R ks pv Lp _ a0 a1 h ?_ hfd).mono ?_
  · exact hB.ofBelow (trA (trA (trA (tr0 w) _) _) _)
  rintro e w1 ⟨rfl, hb1⟩
  have hP := blk_below hb1 ((b3_o w _ _ _ hB.ltp).trans hB.cell) (by rw [b3_s]; have := hB.ltp; omega)
  have hX0 := blk_below hb1 (b3_0 w _ _ _) (by rw [b3_s]; omega)
  have hX1 := blk_below hb1 (b3_1 w _ _ _) (by rw [b3_s]; omega)
  have hX2 := blk_below hb1 (b3_2 w _ _ _) (by rw [b3_s]; omega)
  have hx2 := blk_cell hX2 0
  simp only [List.getElem?_toArray, List.getElem?_cons_zero, List.getElem?_cons_succ] at hx2
  have hf2 := blk_free hX2 0
  have hl0 := lt_of_block hX0
  have hl1 := lt_of_block hX1
  have hl2 := lt_of_block hX2
  have hlp0 := hB.ltp
  have hlp := lt_of_block hP
  have hbw : Below w.heap.size w w1 := tr (trA (trA (trA (tr0 w) _) _) _) hb1
  have HX0 := Lib.hid hX0
  have HX1 := Lib.hid hX1
  have HX2 := Lib.hid hX2
  have HP := Lib.hid hP
  have HB := Lib.hid hB
  clear hX0 hX1 hX2 hb1 hP hB
  go_upto_region 2 with (fail)
  have hY0 := (blk_old (w1.setCell ⟨w.heap.size + 1 + 1, 0, none⟩ (.int .i64 0)) (.cells #[.int .u32 b, .int .u32 s, .iface xt xv] 109) (by simpa using hl0)).trans (blk_else HX0.out (w.heap.size + 1 + 1) 0 (.int .i64 0) (by omega))
  have hY1 := (blk_old (w1.setCell ⟨w.heap.size + 1 + 1, 0, none⟩ (.int .i64 0)) (.cells #[.int .u32 b, .int .u32 s, .iface xt xv] 109) (by simpa using hl1)).trans (blk_else HX1.out (w.heap.size + 1 + 1) 0 (.int .i64 0) (by omega))
  have hY2 := (blk_old (w1.setCell ⟨w.heap.size + 1 + 1, 0, none⟩ (.int .i64 0)) (.cells #[.int .u32 b, .int .u32 s, .iface xt xv] 109) (by simpa using hl2)).trans (blk_set HX2.out 0 (.int .i64 0))
  have hYP := (blk_old (w1.setCell ⟨w.heap.size + 1 + 1, 0, none⟩ (.int .i64 0)) (.cells #[.int .u32 b, .int .u32 s, .iface xt xv] 109) (by simpa using hlp)).trans (blk_else HP.out (w.heap.size + 1 + 1) 0 (.int .i64 0) (by omega))
  have hYS := blk_new (w1.setCell ⟨w.heap.size + 1 + 1, 0, none⟩ (.int .i64 0)) (.cells #[.int .u32 b, .int .u32 s, .iface xt xv] 109)
  have hbW : Below w.heap.size w ((w1.setCell ⟨w.heap.size + 1 + 1, 0, none⟩ (.int .i64 0)).alloc (.cells #[.int .u32 b, .int .u32 s, .iface xt xv] 109)) := trA (hbw.setCell (p := ⟨w.heap.size + 1 + 1, 0, none⟩) (by show w.heap.size ≤ w.heap.size + 1 + 1; omega) _) _
  generalize ((w1.setCell ⟨w.heap.size + 1 + 1, 0, none⟩ (.int .i64 0)).alloc (.cells #[.int .u32 b, .int .u32 s, .iface xt xv] 109)) = W at *
  have hY2 : W.heap[w.heap.size + 2]? = some (.cells #[.int .i64 0] 34 (0, 0)) := by simpa using hY2
  have hYS : W.heap[w1.heap.size]? = some (.cells #[.int .u32 b, .int .u32 s, .iface xt xv] 109 (0, 0)) := by simpa using hYS
  clear hx2 hf2 HX0 HX1 HX2 HP hbw
  have hx0 := blk_cell hY0 0
  have hx2 := blk_cell hY2 0
  have hp2 := blk_cell hYP 2
  have hs0 := blk_cell hYS 0
  have hs2 := blk_cell hYS 2
  simp only [List.getElem?_toArray, List.getElem?_cons_zero, List.getElem?_cons_succ] at hx0 hx2 hp2 hs0 hs2
  have hfp := blk_free hYP 2
  have hlq := lt_of_block hYS
  have hn1 : (p == w.heap.size) = false := by simp; omega
  have hn2 : (p == w1.heap.size) = false := by simp; omega
  have H0 := Lib.hid hY0
  have H1 := Lib.hid hY1
  have H2 := Lib.hid hY2
  have HP := Lib.hid hYP
  have HS := Lib.hid hYS
  clear hY0 hY1 hY2 hYP hYS
  go_upto_region 8 with (fail)
  clear hx0 hx2 hp2 hfp hn1 hn2
  go_wp2_with fail
  have ho1 : Off (· = p) w (W.setCell ⟨p, 2, none⟩ (.int .i64 1)) := (Off.ofBelow hbW).trans (Off.ofSetCell W ⟨p, 2, none⟩ _ rfl)
  refine (hdev _ ho1).mono ?_
  rintro e Z ⟨rfl, ho2, hTZ⟩
  have hZ0 := ho2.at (blk_else H0.out p 2 (.int .i64 1) (by omega)) (fun h => by have := hDl _ h; omega)
  have hZ1 := ho2.at (blk_else H1.out p 2 (.int .i64 1) (by omega)) (fun h => by have := hDl _ h; omega)
  have hZ2 := ho2.at (blk_else H2.out p 2 (.int .i64 1) (by omega)) (fun h => by have := hDl _ h; omega)
  have hZP := ho2.at (blk_set HP.out 2 (.int .i64 1)) hDp
  have hz1 := blk_cell hZ1 0
  have hz2 := blk_cell hZ2 0
  simp only [List.getElem?_toArray, List.getElem?_cons_zero, List.getElem?_cons_succ] at hz1 hz2
  have hfz1 := blk_free hZ1 0
  have hfz2 := blk_free hZ2 0
  have G0 := Lib.hid hZ0
  have G1 := Lib.hid hZ1
  have G2 := Lib.hid hZ2
  have GP := Lib.hid hZP
  have O1 := Lib.hid ho1
  have O2 := Lib.hid ho2
  clear hZ0 hZ1 hZ2 hZP ho1 ho2 hdev H0 H1 H2 HS
  go_wp2_with fail
  have hQ0 := blk_else (blk_else G0.out (w.heap.size + 1) 0 (.int .u32 v) (by omega)) (w.heap.size + 1 + 1) 0 (.int .i64 E) (by omega)
  have hQ1 := blk_else (blk_set G1.out 0 (.int .u32 v)) (w.heap.size + 1 + 1) 0 (.int .i64 E) (by omega)
  have hQ2 := blk_set (blk_else G2.out (w.heap.size + 1) 0 (.int .u32 v) (by omega)) 0 (.int .i64 E)
  have hQP := blk_else (blk_else GP.out (w.heap.size + 1) 0 (.int .u32 v) (by omega)) (w.heap.size + 1 + 1) 0 (.int .i64 E) (by omega)
  have hOY : Off (fun k => k = p ∨ D k) w (((Z.setCell ⟨w.heap.size + 1, 0, none⟩ (.int .u32 v)).setCell ⟨w.heap.size + 1 + 1, 0, none⟩ (.int .i64 E))) := by
    refine ((O1.out.andThen O2.out (U := fun k => k = p ∨ D k) (fun _ _ h => .inl h) (fun _ _ h => .inr h)).andThen (T := (· = w.heap.size + 1)) (Off.ofSetCell _ _ _ rfl) (fun _ _ h => h) (fun i hi h => by omega)).andThen (T := (· = w.heap.size + 1 + 1)) (Off.ofSetCell _ _ _ rfl) (fun _ _ h => h) (fun i hi h => by omega)
  have hTY := hT _ (((Z.setCell ⟨w.heap.size + 1, 0, none⟩ (.int .u32 v)).setCell ⟨w.heap.size + 1 + 1, 0, none⟩ (.int .i64 E))) hTZ ((Off.ofSetCell (S := fun k => k = p ∨ w.heap.size ≤ k) Z ⟨w.heap.size + 1, 0, none⟩ (.int .u32 v) (.inr (by show w.heap.size ≤ w.heap.size + 1; omega))).trans (Off.ofSetCell (S := fun k => k = p ∨ w.heap.size ≤ k) _ ⟨w.heap.size + 1 + 1, 0, none⟩ (.int .i64 E) (.inr (by show w.heap.size ≤ w.heap.size + 1 + 1; omega))))
  generalize ((Z.setCell ⟨w.heap.size + 1, 0, none⟩ (.int .u32 v)).setCell ⟨w.heap.size + 1 + 1, 0, none⟩ (.int .i64 E)) = Y0 at *
  refine leaves_cons (f := 68) (args := #[.pointer (some ⟨w.heap.size, 0, none⟩), .pointer (some ⟨w.heap.size + 1 + 1, 0, none⟩), .pointer (some ⟨w.heap.size + 1, 0, none⟩)]) (by simp) (by simp [go_sem]) ?_
  refine (uDefer w.heap.size (w.heap.size + 1 + 1) (w.heap.size + 1) p E v Y0 ?_ ?_ ?_ ?_ ?_ ?_ hvE).mono ?_
  · simpa using blk_cell hQ0 0
  · simpa using blk_cell hQP 2
  · exact blk_free hQP 2
  · simpa using blk_cell hQ2 0
  · exact ⟨by omega, by omega⟩
  · exact hQ1
  rintro e u' Y ⟨rfl, rfl, hY⟩
  refine reach_ret (Q := fun w' => Off D w w' ∧ T w') rfl rfl ((hY.block _).trans (blk_else hQ1 p 2 _ (by omega))) ((hY.block _).trans (blk_else hQ2 p 2 _ (by omega))) ?_
  have hoY : Off (· = p) Y0 Y := hY.off p 2 _
  refine ⟨(hOY.andThen hoY (U := fun k => k = p ∨ D k) (fun _ _ h => h) (fun _ _ h => .inl h)).restored ?_, hT _ _ hTY (hoY.mono fun _ _ h => .inl h)⟩
  rintro k hk (rfl | hD) hnD
  · have h1 := blk_set hQP 2 (.int .i64 0)
    rw [hY.block, HB.out.cell]
    simpa using h1
  · exact absurd hD hnD
end Go.Proofs.Ytafegmmcgghgaaa.B
namespace Go.Proofs.Ytafegmmcgghgaaa.B
set_option linter.unusedVariables false
set_option linter.unusedSimpArgs false

def lo (a : Int) : Int := a % 4294967296
def hi (a : Int) : Int := a / 4294967296
def join (h l : Int) : Int := h * 4294967296 + l
def addS (a b : Int) : Int := if 18446744073709551615 - b < a then 18446744073709551615 else a + b
def subS (a b : Int) : Int := if a < b then 0 else a - b
def mask (n : Int) : Int := if n < 0 then 0 else if 64 ≤ n then 18446744073709551615 else 2 ^ n.toNat - 1
def signed (n : Int) : Int := if 2147483648 ≤ n then n - 4294967296 else n
/-- 64 to a level. -/
def pw (k : Nat) : Int := 64 ^ k
def dig (n level : Int) : Int := if level < 0 then 0 else if 8 ≤ level then n / pw 8 % 64 else n / pw level.toNat % 64
def withd (n level d : Int) : Int :=
  if level < 0 then n else if 8 ≤ level then n else n / pw (level.toNat + 1) * pw (level.toNat + 1) + d % 64 * pw level.toNat
/-- A digit below 8, the rest at 8. -/
def digr (n : Int) (k : Nat) : Int := if k = 8 then n / pw 8 else n / pw k % 64
def topB (a b : Int) : Nat → Int
  | 0 => -1
  | k + 1 => if digr a k = digr b k then topB a b k else k
def top (a b : Int) : Int := topB a b 9
def bit (n : Int) (i : Nat) : Bool := decide (n / 2 ^ i % 2 = 1)
def firstB (n f : Int) : Nat → Nat → Int
  | 0, _ => -1
  | k + 1, i => if f ≤ (i : Int) ∧ bit n i = true then i else firstB n f k (i + 1)
def first (n f : Int) : Int := firstB n f 64 0
def inw (low width : Int) : Bool := decide (0 ≤ low ∧ low < 32 ∧ 1 ≤ width)
def field (n low width : Int) : Int := if inw low width = true then ((n.toNat / 2 ^ low.toNat % 2 ^ (min width.toNat 32) : Nat) : Int) else 0
/-- The number of so many bits. -/
def ofBits (f : Nat → Bool) : Nat → Nat
  | 0 => 0
  | k + 1 => ofBits f k + if f k = true then 2 ^ k else 0
def putBit (n low width v : Int) (i : Nat) : Bool :=
  if low.toNat ≤ i ∧ i - low.toNat < width.toNat then v.toNat.testBit (i - low.toNat) else n.toNat.testBit i
def put (n low width v : Int) : Int := if inw low width = true then ((ofBits (putBit n low width v) 32 : Nat) : Int) else n

/-! ### bounds -/
theorem lo_nonneg (a : Int) : 0 ≤ lo a := by unfold lo; omega
theorem lo_lt (a : Int) : lo a < 4294967296 := by unfold lo; omega
theorem hi_nonneg {a : Int} (h : 0 ≤ a) : 0 ≤ hi a := by unfold hi; omega
theorem hi_lt {a : Int} (h : a < 18446744073709551616) : hi a < 4294967296 := by unfold hi; omega
theorem join_hi_lo (a : Int) : join (hi a) (lo a) = a := by unfold join hi lo; omega
theorem pw_pos (k : Nat) : 1 ≤ pw k := by
  unfold pw; have : (0 : Int) < 64 ^ k := Int.pow_pos (by decide); omega
theorem pw_succ (k : Nat) : pw (k + 1) = pw k * 64 := by unfold pw; rw [Int.pow_succ]
theorem pw_le {k : Nat} (h : k ≤ 8) : pw k ≤ 281474976710656 := by
  have h2 : ∀ k : Fin 9, pw k.1 ≤ 281474976710656 := by decide
  exact h2 ⟨k, by omega⟩
theorem pw8 : pw 8 = 281474976710656 := by decide
theorem pw_two (k : Nat) : pw k = 2 ^ (6 * k) := by unfold pw; rw [Int.pow_mul]; rfl
theorem dig_nonneg (n l : Int) : 0 ≤ dig n l := by unfold dig; split <;> (try split) <;> omega
theorem dig_lt (n l : Int) : dig n l < 64 := by unfold dig; split <;> (try split) <;> omega
theorem mask_nonneg (n : Int) : 0 ≤ mask n := by
  unfold mask; split; · omega
  split; · omega
  have : (0 : Int) < 2 ^ n.toNat := Int.pow_pos (by decide); omega
theorem two_pow_le {i j : Nat} (h : i ≤ j) : (2 : Int) ^ i ≤ 2 ^ j := by
  have := Nat.pow_le_pow_right (n := 2) (by decide) h
  exact_mod_cast this
theorem mask_le (n : Int) : mask n ≤ 18446744073709551615 := by
  unfold mask; split; · omega
  split; · omega
  have h := two_pow_le (show n.toNat ≤ 63 by omega); have : (2 : Int) ^ 63 = 9223372036854775808 := by decide
  omega

/-! ### bits -/
theorem or_join (h l : Int) (h0 : 0 ≤ h) (h1 : h < 4294967296) (l0 : 0 ≤ l) (l1 : l < 4294967296) : bits BinOp.or IntKind.u64 (h * 4294967296) l = join h l := by
  rw [u64_or _ _ (by omega) (by omega) (by omega) (by omega), nat_join 32 _ _ (by omega) (by omega)]; unfold join; omega
theorem wrap_mask (n : Int) (h0 : 0 ≤ n) (h1 : n ≤ 64) : IntKind.u64.wrap (IntKind.u64.wrap (2 ^ n.toNat) - 1) = mask n := by
  by_cases e : n = 64
  · subst e; decide
  have h := two_pow_le (show n.toNat ≤ 63 by omega)
  have e : (2 : Int) ^ 63 = 9223372036854775808 := by decide
  have p : (0 : Int) < 2 ^ n.toNat := Int.pow_pos (by decide)
  unfold mask; rw [if_neg (by omega), if_neg (by omega), IntKind.wrap_u64, IntKind.wrap_u64]
  omega
theorem wrap_mask_top (n : Int) (h0 : 64 ≤ n) : IntKind.u64.wrap (IntKind.u64.wrap 18446744073709551616 - 1) = mask n := by
  unfold mask; rw [if_neg (by omega), if_pos h0, IntKind.wrap_u64, IntKind.wrap_u64]; decide
theorem and63 (x : Int) (h0 : 0 ≤ x) (h1 : x < 18446744073709551616) : bits BinOp.and IntKind.u64 x 63 = x % 64 := by
  rw [u64_and _ _ h0 h1 (by omega) (by omega)]; show ((x.toNat &&& 63 : Nat) : Int) = _; rw [nat_mask6]; omega
theorem and1 (x : Int) (h0 : 0 ≤ x) (h1 : x < 18446744073709551616) : bits BinOp.and IntKind.u64 x 1 = x % 2 := by
  rw [u64_and _ _ h0 h1 (by omega) (by omega)]; show ((x.toNat &&& 1 : Nat) : Int) = _; rw [nat_mask1]; omega
theorem div_pow_nonneg (n : Int) (i : Nat) (h0 : 0 ≤ n) : 0 ≤ n / 2 ^ i := Int.ediv_nonneg h0 (Int.le_of_lt (Int.pow_pos (by decide)))
theorem div_pow_lt (n : Int) (i : Nat) (h0 : 0 ≤ n) (h1 : n < 18446744073709551616) : n / 2 ^ i < 18446744073709551616 :=
  Int.lt_of_le_of_lt (Int.ediv_le_self _ h0) h1
theorem wrap64_small (x : Int) (h0 : 0 ≤ x) (h1 : x < 64) : Go.RowKit.wrap64 x = x := by unfold Go.RowKit.wrap64; omega
theorem digit_top (n l : Int) (h0 : 0 ≤ n) (h1 : n < 18446744073709551616) (hl : 8 ≤ l) : Go.RowKit.wrap64 (bits BinOp.and IntKind.u64 (n / 281474976710656) 63) = dig n l := by
  rw [and63 _ (by omega) (by omega), wrap64_small _ (by omega) (by omega)]; unfold dig; rw [if_neg (by omega), if_pos hl, pw8]
theorem digit_low (n l : Int) (h0 : 0 ≤ n) (h1 : n < 18446744073709551616) (l0 : 0 ≤ l) (hl : l ≤ 8) : Go.RowKit.wrap64 (bits BinOp.and IntKind.u64 (n / 2 ^ (6 * l).toNat) 63) = dig n l := by
  rw [and63 _ (div_pow_nonneg _ _ h0) (div_pow_lt _ _ h0 h1), wrap64_small _ (by omega) (by omega)]; unfold dig
  rw [if_neg (by omega)]
  have e : (6 * l).toNat = 6 * l.toNat := by omega
  rw [e, ← pw_two]
  split
  · obtain rfl : l = 8 := by omega
    rfl
  · rfl
theorem set_bit (n p : Int) (h0 : 0 ≤ n) (h1 : n < 18446744073709551616) : (bits BinOp.and IntKind.u64 (n / 2 ^ p.toNat) 1 == 1) = bit n p.toNat := by
  rw [and1 _ (div_pow_nonneg _ _ h0) (div_pow_lt _ _ h0 h1)]; rfl
theorem nat_above (n j : Nat) (hn : n < 2 ^ 64) (hj : j ≤ 64) : n &&& (18446744073709551615 - (2 ^ j - 1)) = n / 2 ^ j * 2 ^ j := by
  have hp : 2 ^ j ≤ 2 ^ 64 := Nat.pow_le_pow_right (by decide) hj
  have hp0 : 0 < 2 ^ j := Nat.two_pow_pos j
  have e : 18446744073709551615 - (2 ^ j - 1) = 2 ^ 64 - ((2 ^ j - 1) + 1) := by
    have : (2 : Nat) ^ 64 = 18446744073709551616 := by decide
    omega
  rw [e]
  apply Nat.eq_of_testBit_eq
  intro i
  rw [Nat.testBit_and, Nat.testBit_two_pow_sub_succ (by omega), Nat.testBit_two_pow_sub_one, Nat.mul_comm, Nat.testBit_two_pow_mul, Nat.testBit_div_two_pow]
  by_cases hi : i < j
  · have : ¬ j ≤ i := by omega
    simp [hi, this]
  · have hji : j ≤ i := by omega
    by_cases h64 : i < 64
    · simp [hi, hji, h64, Nat.sub_add_cancel hji]
    · have : n.testBit i = false := Nat.testBit_lt_two_pow (Nat.lt_of_lt_of_le hn (Nat.pow_le_pow_right (by decide) (by omega)))
      simp [this, hji, h64, Nat.sub_add_cancel hji]
theorem cast_two_pow (k : Nat) : ((2 ^ k : Nat) : Int) = 2 ^ k := by push_cast; rfl
theorem above_mask (n : Int) (j : Nat) (h0 : 0 ≤ n) (h1 : n < 18446744073709551616) (hj : j ≤ 63) : bits BinOp.andNot IntKind.u64 n (2 ^ j - 1) = n / 2 ^ j * 2 ^ j := by
  have p : (0 : Int) < 2 ^ j := Int.pow_pos (by decide)
  have q := two_pow_le hj
  have e : (2 : Int) ^ 63 = 9223372036854775808 := by decide
  rw [u64_andNot _ _ h0 h1 (by omega) (by omega)]
  obtain ⟨m, rfl⟩ := Int.eq_ofNat_of_zero_le h0
  have t : ((2 : Int) ^ j - 1).toNat = 2 ^ j - 1 := by
    have := cast_two_pow j; have := Nat.two_pow_pos j; omega
  rw [t, Int.toNat_natCast, nat_above m j (by have : (2 : Nat) ^ 64 = 18446744073709551616 := by decide
                                              omega) (by omega)]
  push_cast; rfl
theorem i64_and63 (d : Int) : bits BinOp.and IntKind.i64 d 63 = d % 64 := by
  have m : (BitVec.ofInt 64 63).toNat = 2 ^ 6 - 1 := by decide
  have key : (BitVec.ofInt 64 d &&& BitVec.ofInt 64 63).toNat = (d % ((2 ^ 64 : Nat) : Int)).toNat % 2 ^ 6 := by
    rw [BitVec.toNat_and, BitVec.toNat_ofInt, m, Nat.and_two_pow_sub_one_eq_mod]
  show IntKind.i64.wrap ((BitVec.ofInt 64 d &&& BitVec.ofInt 64 63).toNat : Nat) = d % 64
  rw [key, IntKind.wrap_i64]
  omega
theorem pw_two' (l : Int) (h : 0 ≤ l) : (2 : Int) ^ (6 * l).toNat = pw l.toNat := by
  rw [pw_two, show (6 * l).toNat = 6 * l.toNat from by omega]
theorem with_code (n l d : Int) (h0 : 0 ≤ n) (h1 : n < 18446744073709551616) (l0 : 0 ≤ l) (l1 : l < 8) :
    bits BinOp.or IntKind.u64 (bits BinOp.andNot IntKind.u64 n (mask (6 * l + 6))) (IntKind.u64.wrap (IntKind.u64.wrap (bits BinOp.and IntKind.i64 d 63) * 2 ^ (6 * l).toNat)) = withd n l d := by
  have em : mask (6 * l + 6) = 2 ^ (6 * (l.toNat + 1)) - 1 := by
    unfold mask; rw [if_neg (by omega), if_neg (by omega), show (6 * l + 6).toNat = 6 * (l.toNat + 1) from by omega]
  have hu := pw_le (show l.toNat ≤ 7 + 1 by omega)
  have hu7 : pw l.toNat ≤ 4398046511104 := by
    have h2 : ∀ k : Fin 8, pw k.1 ≤ 4398046511104 := by decide
    exact h2 ⟨l.toNat, by omega⟩
  have hp := pw_pos l.toNat
  have hs := pw_succ l.toNat
  have hv : pw (l.toNat + 1) ≤ 281474976710656 := pw_le (by omega)
  have hb : 0 ≤ d % 64 * pw l.toNat := Int.mul_nonneg (by omega) (by omega)
  have hc : d % 64 * pw l.toNat < pw (l.toNat + 1) := by
    rw [hs, Int.mul_comm (pw l.toNat)]; exact Int.mul_lt_mul_of_pos_right (by omega) (by omega)
  have hd0 : 0 ≤ n / pw (l.toNat + 1) * pw (l.toNat + 1) := Int.mul_nonneg (Int.ediv_nonneg h0 (by omega)) (by omega)
  have hd1 : n / pw (l.toNat + 1) * pw (l.toNat + 1) ≤ n := Int.ediv_mul_le _ (by omega)
  rw [em, above_mask n _ h0 h1 (by omega), ← pw_two, i64_and63, pw_two' l l0]
  rw [show IntKind.u64.wrap (d % 64) = d % 64 from by rw [IntKind.wrap_u64]; omega, show IntKind.u64.wrap (d % 64 * pw l.toNat) = d % 64 * pw l.toNat from by rw [IntKind.wrap_u64]; omega]
  rw [u64_or _ _ hd0 (by omega) hb (by omega)]
  rw [nat_join (6 * (l.toNat + 1)) _ _ ?_ ?_]
  · unfold withd; rw [if_neg (by omega), if_neg (by omega)]; omega
  · have e2 : (2 : Int) ^ (6 * (l.toNat + 1)) = pw (l.toNat + 1) := (pw_two _).symm
    have e3 := cast_two_pow (6 * (l.toNat + 1))
    have e4 : (n / pw (l.toNat + 1) * pw (l.toNat + 1)) % pw (l.toNat + 1) = 0 := Int.mul_emod_left _ _
    have e5 : (((n / pw (l.toNat + 1) * pw (l.toNat + 1)).toNat % 2 ^ (6 * (l.toNat + 1)) : Nat) : Int) = 0 := by
      rw [Int.natCast_emod, e3, e2, Int.toNat_of_nonneg hd0, e4]
    exact_mod_cast e5
  · have e2 : (2 : Int) ^ (6 * (l.toNat + 1)) = pw (l.toNat + 1) := (pw_two _).symm
    have e3 := cast_two_pow (6 * (l.toNat + 1))
    omega
/-! ### the lowest bit from a place on -/
theorem firstB_step (n f : Int) (k i : Nat) (h : ¬ (f ≤ (i : Int) ∧ bit n i = true)) : firstB n f (k + 1) i = firstB n f k (i + 1) := by
  rw [firstB, if_neg h]
theorem firstB_some (n f : Int) (p : Nat) (hf : f ≤ (p : Int)) (hb : bit n p = true) : ∀ (d i k : Nat), i + d = p → d < k →
    (∀ q : Nat, i ≤ q → f ≤ (q : Int) → q < p → bit n q = false) → firstB n f k i = p := by
  intro d
  induction d with
  | zero =>
    intro i k hi hk _
    obtain rfl : i = p := by omega
    obtain ⟨k', rfl⟩ : ∃ k', k = k' + 1 := ⟨k - 1, by omega⟩
    rw [firstB, if_pos ⟨hf, hb⟩]
  | succ d ih =>
    intro i k hi hk hq
    obtain ⟨k', rfl⟩ : ∃ k', k = k' + 1 := ⟨k - 1, by omega⟩
    rw [firstB_step n f k' i (fun ⟨a, b⟩ => by rw [hq i (Nat.le_refl _) a (by omega)] at b; cases b)]
    exact ih (i + 1) k' (by omega) (by omega) (fun q h1 h2 h3 => hq q (by omega) h2 h3)
theorem firstB_none (n f : Int) : ∀ (k i : Nat), (∀ q : Nat, i ≤ q → f ≤ (q : Int) → q < i + k → bit n q = false) → firstB n f k i = -1 := by
  intro k
  induction k with
  | zero => intro i _; rfl
  | succ k ih =>
    intro i hq
    rw [firstB_step n f k i (fun ⟨a, b⟩ => by rw [hq i (Nat.le_refl _) a (by omega)] at b; cases b)]
    exact ih (i + 1) (fun q h1 h2 h3 => hq q (by omega) h2 (by omega))
/-- No bit from f on below k. -/
def noneTo (n f : Int) (k : Nat) : Prop := ∀ q : Nat, f ≤ (q : Int) → q < k → bit n q = false
theorem noneTo_start (n f : Int) (k : Nat) (h : (k : Int) ≤ f ∨ k = 0) : noneTo n f k := fun q h1 h2 => by omega
theorem noneTo_next (n f : Int) (k : Nat) (h : noneTo n f k) (hb : bit n k = false) : noneTo n f (k + 1) := fun q h1 h2 => by
  by_cases e : q = k
  · subst e; exact hb
  · exact h q h1 (by omega)
theorem first_some (n f : Int) (k : Nat) (h : noneTo n f k) (hf : f ≤ (k : Int)) (hk : k < 64) (hb : bit n k = true) : first n f = k :=
  firstB_some n f k hf hb k 0 64 (by omega) hk (fun q _ h2 h3 => h q h2 h3)
theorem first_none (n f : Int) (k : Nat) (h : noneTo n f k) (hk : 64 ≤ k) : first n f = -1 :=
  firstB_none n f 64 0 (fun q _ h2 h3 => h q h2 (by omega))
theorem dig_digr (n : Int) (k : Nat) (h : k < 8) : dig n (k : Int) = digr n k := by
  unfold dig digr; rw [if_neg (by omega), if_neg (by omega), if_neg (by omega), Int.toNat_natCast]
theorem digr_nonneg (n : Int) (k : Nat) (h0 : 0 ≤ n) : 0 ≤ digr n k := by
  unfold digr; split
  · exact Int.ediv_nonneg h0 (by rw [pw8]; decide)
  · omega
theorem digr_lt (n : Int) (k : Nat) (h1 : n < 18446744073709551616) : digr n k < 65536 := by
  unfold digr; split
  · rw [pw8]; omega
  · omega
/-! ### fields -/
theorem inw_low {low width : Int} (h : inw low width = true) : 0 ≤ low ∧ low < 32 ∧ 1 ≤ width := by unfold inw at h; simpa using h
theorem lo_mask (width : Int) (h : 1 ≤ width) : lo (mask width) = ((2 ^ min width.toNat 32 - 1 : Nat) : Int) := by
  have e32 : (2 : Nat) ^ 32 = 4294967296 := by decide
  unfold lo mask
  rw [if_neg (by omega)]
  split
  · rw [Nat.min_eq_right (by omega), e32]; rfl
  · by_cases c : width.toNat ≤ 32
    · rw [Nat.min_eq_left c]
      have := Nat.pow_le_pow_right (n := 2) (by decide) c
      have := cast_two_pow width.toNat; have := Nat.two_pow_pos width.toNat
      omega
    · rw [Nat.min_eq_right (by omega), e32]
      obtain ⟨d, hd⟩ : ∃ d, width.toNat = 32 + d := ⟨width.toNat - 32, by omega⟩
      rw [hd, Int.pow_add, show (2 : Int) ^ 32 = 4294967296 from by decide]
      have : (0 : Int) < 2 ^ d := Int.pow_pos (by decide)
      generalize (2 : Int) ^ d = q at *
      omega
theorem toNat_div_pow (n : Int) (j : Nat) (h0 : 0 ≤ n) : (n / 2 ^ j).toNat = n.toNat / 2 ^ j := by
  obtain ⟨m, rfl⟩ := Int.eq_ofNat_of_zero_le h0
  have : ((m : Int) / 2 ^ j) = ((m / 2 ^ j : Nat) : Int) := by push_cast; rfl
  rw [this, Int.toNat_natCast, Int.toNat_natCast]
theorem lo_mask_bounds (width : Int) : 0 ≤ lo (mask width) ∧ lo (mask width) < 4294967296 := ⟨lo_nonneg _, lo_lt _⟩
theorem field_code (n low width : Int) (h0 : 0 ≤ n) (h1 : n < 4294967296) (hb : inw low width = true) : bits BinOp.and IntKind.u32 (n / 2 ^ low.toNat) (lo (mask width)) = field n low width := by
  have hw := (inw_low hb).2.2
  have d0 := div_pow_nonneg n low.toNat h0
  have d1 : n / 2 ^ low.toNat ≤ n := Int.ediv_le_self _ h0
  rw [u32_and _ _ d0 (by omega) (lo_nonneg _) (lo_lt _)]
  unfold field
  rw [if_pos hb, lo_mask width hw, Int.toNat_natCast, Nat.and_two_pow_sub_one_eq_mod, toNat_div_pow n _ h0]
theorem ofBits_lt (f : Nat → Bool) (n : Nat) : ofBits f n < 2 ^ n := by
  induction n with
  | zero => simp [ofBits]
  | succ n ih => rw [ofBits, Nat.pow_succ]; split <;> omega
theorem ofBits_testBit (f : Nat → Bool) (n i : Nat) : (ofBits f n).testBit i = (decide (i < n) && f i) := by
  induction n with
  | zero => simp [ofBits]
  | succ n ih =>
    rw [ofBits]
    by_cases hf : f n = true
    · rw [if_pos hf, Nat.add_comm]
      by_cases e : i = n
      · subst e
        rw [Nat.testBit_two_pow_add_eq, ih]; simp [hf]
      · by_cases hlt : i < n
        · rw [Nat.testBit_two_pow_add_gt hlt, ih]; simp [hlt, Nat.lt_succ_of_lt hlt]
        · have : (2 ^ n + ofBits f n).testBit i = false := by
            apply Nat.testBit_lt_two_pow
            have a := ofBits_lt f n
            have b : 2 ^ (n + 1) ≤ 2 ^ i := Nat.pow_le_pow_right (by decide) (by omega)
            rw [Nat.pow_succ] at b; omega
          rw [this]; simp; omega
    · rw [if_neg hf, Nat.add_zero, ih]
      by_cases e : i = n
      · subst e; simp [hf]
      · by_cases hlt : i < n
        · simp [hlt, Nat.lt_succ_of_lt hlt]
        · have : ¬ i < n + 1 := by omega
          simp [hlt, this]
theorem toNat_mul_pow (v : Int) (j : Nat) (h0 : 0 ≤ v) : (v * 2 ^ j % 4294967296).toNat = v.toNat * 2 ^ j % 2 ^ 32 := by
  obtain ⟨m, rfl⟩ := Int.eq_ofNat_of_zero_le h0
  have : ((m : Int) * 2 ^ j % 4294967296) = ((m * 2 ^ j % 2 ^ 32 : Nat) : Int) := by
    rw [Int.natCast_emod, Int.natCast_mul, cast_two_pow, cast_two_pow, show (2 : Int) ^ 32 = 4294967296 from by decide]
  rw [this, Int.toNat_natCast, Int.toNat_natCast]
theorem put_code (n low width v : Int) (h0 : 0 ≤ n) (h1 : n < 4294967296) (v0 : 0 ≤ v) (hb : inw low width = true) :
    bits BinOp.or IntKind.u32 (bits BinOp.andNot IntKind.u32 n (lo (mask width) * 2 ^ low.toNat % 4294967296)) (bits BinOp.and IntKind.u32 (v * 2 ^ low.toNat % 4294967296) (lo (mask width) * 2 ^ low.toNat % 4294967296)) = put n low width v := by
  obtain ⟨l0, l1, hw⟩ := inw_low hb
  have b1 : ∀ x : Int, 0 ≤ x % 4294967296 ∧ x % 4294967296 < 4294967296 := fun x => by omega
  rw [u32_andNot _ _ h0 h1 (b1 _).1 (b1 _).2, u32_and _ _ (b1 _).1 (b1 _).2 (b1 _).1 (b1 _).2]
  rw [toNat_mul_pow _ _ (lo_nonneg _), toNat_mul_pow _ _ v0, lo_mask width hw, Int.toNat_natCast]
  have e32 : (2 : Nat) ^ 32 = 4294967296 := by decide
  have hP : (2 ^ min width.toNat 32 - 1) * 2 ^ low.toNat % 2 ^ 32 < 2 ^ 32 := Nat.mod_lt _ (by decide)
  have ha : n.toNat &&& 4294967295 - (2 ^ min width.toNat 32 - 1) * 2 ^ low.toNat % 2 ^ 32 < 2 ^ 32 := Nat.lt_of_le_of_lt Nat.and_le_left (by omega)
  have hc : v.toNat * 2 ^ low.toNat % 2 ^ 32 &&& (2 ^ min width.toNat 32 - 1) * 2 ^ low.toNat % 2 ^ 32 < 2 ^ 32 := Nat.lt_of_le_of_lt Nat.and_le_left (Nat.mod_lt _ (by decide))
  rw [u32_or_nat _ _ (by omega) (by omega)]
  unfold put
  rw [if_pos hb]
  congr 1
  apply Nat.eq_of_testBit_eq
  intro i
  rw [ofBits_testBit, Nat.testBit_or, Nat.testBit_and, Nat.testBit_and,
    show 4294967295 - (2 ^ min width.toNat 32 - 1) * 2 ^ low.toNat % 2 ^ 32 = 2 ^ 32 - ((2 ^ min width.toNat 32 - 1) * 2 ^ low.toNat % 2 ^ 32 + 1) from by omega,
    Nat.testBit_two_pow_sub_succ hP, Nat.testBit_mod_two_pow, Nat.testBit_mod_two_pow, Nat.mul_comm _ (2 ^ low.toNat), Nat.mul_comm _ (2 ^ low.toNat), Nat.testBit_two_pow_mul, Nat.testBit_two_pow_mul, Nat.testBit_two_pow_sub_one]
  by_cases hi : i < 32
  · by_cases hl : low.toNat ≤ i
    · by_cases hw2 : i - low.toNat < width.toNat
      · have : i - low.toNat < min width.toNat 32 := by omega
        simp [putBit, hi, hl, hw2, this]
      · have : ¬ i - low.toNat < min width.toNat 32 := by omega
        simp [putBit, hi, hl, hw2, this]
    · simp [putBit, hi, hl]
  · simp [hi]
end Go.Proofs.Ytafegmmcgghgaaa.B
namespace Go.Proofs.Ytafegmmcgghgaaa.B
set_option linter.unusedVariables false
set_option linter.unusedSimpArgs false
/-- Is a bit of a register set, written v? -/
def stB (a wr cl v : Int) (i : Nat) : Bool := if (bit cl i && bit v i) = true then false else if bit wr i = true then bit v i else bit a i
def stV (a wr cl v : Int) : Int := ((ofBits (stB a wr cl v) 32 : Nat) : Int)
def tnB (a up dn : Int) (i : Nat) : Bool := (bit a i || bit up i) && !bit dn i
def tnV (a up dn : Int) : Int := ((ofBits (tnB a up dn) 32 : Nat) : Int)
/-- The number so far, and the unit. -/
def ob (f : Nat → Bool) (k : Nat) : Int := ((ofBits f k : Nat) : Int)
def un (k : Nat) : Int := 2 ^ k % 4294967296
theorem ob_zero (f : Nat → Bool) : ob f 0 = 0 := rfl
theorem ob_bounds (f : Nat → Bool) (k : Nat) (h : k ≤ 32) : 0 ≤ ob f k ∧ ob f k < 4294967296 := by
  have a := ofBits_lt f k
  have b : 2 ^ k ≤ 2 ^ 32 := Nat.pow_le_pow_right (by decide) h
  unfold ob; omega
theorem un_bounds (k : Nat) : 0 ≤ un k ∧ un k < 4294967296 := by unfold un; omega
theorem un_pow (k : Nat) (h : k < 32) : un k = ((2 ^ k : Nat) : Int) := by
  have b : 2 ^ k ≤ 2 ^ 31 := Nat.pow_le_pow_right (by decide) (by omega)
  unfold un; rw [← cast_two_pow]
  generalize 2 ^ k = x at b ⊢
  omega
theorem un_succ (k : Nat) : un (k + 1) = 2 * un k % 4294967296 := by
  unfold un; rw [Int.pow_succ]; omega
theorem ob_un (f : Nat → Bool) (k : Nat) (h : k < 32) : ob f k + un k < 4294967296 := by
  have a := ofBits_lt f k
  have b : 2 ^ (k + 1) ≤ 2 ^ 32 := Nat.pow_le_pow_right (by decide) (by omega)
  rw [Nat.pow_succ] at b
  rw [un_pow k h]; unfold ob; omega
theorem ob_yes (f : Nat → Bool) (k : Nat) (h : k < 32) (hf : f k = true) : ob f (k + 1) = ob f k + un k := by
  rw [un_pow k h]; unfold ob; rw [ofBits, if_pos hf]; push_cast; rfl
theorem ob_no (f : Nat → Bool) (k : Nat) (hf : f k = false) : ob f (k + 1) = ob f k := by
  unfold ob; rw [ofBits, if_neg (by rw [hf]; decide)]; simp
theorem bit_testBit (n : Int) (i : Nat) (h : 0 ≤ n) : bit n i = n.toNat.testBit i := by
  obtain ⟨m, rfl⟩ := Int.eq_ofNat_of_zero_le h
  rw [Int.toNat_natCast, Nat.testBit_eq_decide_div_mod_eq]
  unfold bit
  have : ((m : Int) / 2 ^ i % 2) = ((m / 2 ^ i % 2 : Nat) : Int) := by push_cast; rfl
  rw [this]
  exact decide_eq_decide.2 (by omega)
theorem bit_ofBits (f : Nat → Bool) (i : Nat) : bit ((ofBits f 32 : Nat) : Int) i = (decide (i < 32) && f i) := by
  rw [bit_testBit _ _ (by omega), Int.toNat_natCast, ofBits_testBit]
theorem bit_high (n : Int) (i : Nat) (h0 : 0 ≤ n) (h1 : n < 4294967296) (hi : 32 ≤ i) : bit n i = false := by
  rw [bit_testBit n i h0]
  apply Nat.testBit_lt_two_pow
  have : 2 ^ 32 ≤ 2 ^ i := Nat.pow_le_pow_right (by decide) hi
  omega
/-- Words of 32 bits with the same bits are the same. -/
theorem same_bits {a b : Int} (a0 : 0 ≤ a) (a1 : a < 4294967296) (b0 : 0 ≤ b) (b1 : b < 4294967296) (h : ∀ i, i < 32 → bit a i = bit b i) : a = b := by
  have : a.toNat = b.toNat := by
    apply Nat.eq_of_testBit_eq
    intro i
    rw [← bit_testBit a i a0, ← bit_testBit b i b0]
    by_cases hi : i < 32
    · exact h i hi
    · rw [bit_high a i a0 a1 (by omega), bit_high b i b0 b1 (by omega)]
  omega
theorem and_bounds (a b : Int) (a0 : 0 ≤ a) (a1 : a < 4294967296) (b0 : 0 ≤ b) (b1 : b < 4294967296) : 0 ≤ bits BinOp.and IntKind.u32 a b ∧ bits BinOp.and IntKind.u32 a b < 4294967296 := by
  rw [u32_and _ _ a0 a1 b0 b1]
  have : a.toNat &&& b.toNat ≤ a.toNat := Nat.and_le_left
  omega
theorem andNot_bounds (a b : Int) (a0 : 0 ≤ a) (a1 : a < 4294967296) (b0 : 0 ≤ b) (b1 : b < 4294967296) : 0 ≤ bits BinOp.andNot IntKind.u32 a b ∧ bits BinOp.andNot IntKind.u32 a b < 4294967296 := by
  rw [u32_andNot _ _ a0 a1 b0 b1]
  have : a.toNat &&& (4294967295 - b.toNat) ≤ a.toNat := Nat.and_le_left
  omega
theorem or_nat (a b : Int) (a0 : 0 ≤ a) (a1 : a < 4294967296) (b0 : 0 ≤ b) (b1 : b < 4294967296) : bits BinOp.or IntKind.u32 a b = ((a.toNat ||| b.toNat : Nat) : Int) := by
  obtain ⟨m, rfl⟩ := Int.eq_ofNat_of_zero_le a0
  obtain ⟨n, rfl⟩ := Int.eq_ofNat_of_zero_le b0
  rw [u32_or_nat _ _ (by omega) (by omega)]; simp
theorem or_bounds (a b : Int) (a0 : 0 ≤ a) (a1 : a < 4294967296) (b0 : 0 ≤ b) (b1 : b < 4294967296) : 0 ≤ bits BinOp.or IntKind.u32 a b ∧ bits BinOp.or IntKind.u32 a b < 4294967296 := by
  rw [or_nat _ _ a0 a1 b0 b1]
  have : a.toNat ||| b.toNat < 2 ^ 32 := Nat.or_lt_two_pow (by omega) (by omega)
  omega
theorem bit_and (a b : Int) (i : Nat) (a0 : 0 ≤ a) (a1 : a < 4294967296) (b0 : 0 ≤ b) (b1 : b < 4294967296) : bit (bits BinOp.and IntKind.u32 a b) i = (bit a i && bit b i) := by
  rw [u32_and _ _ a0 a1 b0 b1, bit_testBit _ _ (by omega), Int.toNat_natCast, Nat.testBit_and, bit_testBit _ _ a0, bit_testBit _ _ b0]
theorem bit_or (a b : Int) (i : Nat) (a0 : 0 ≤ a) (a1 : a < 4294967296) (b0 : 0 ≤ b) (b1 : b < 4294967296) : bit (bits BinOp.or IntKind.u32 a b) i = (bit a i || bit b i) := by
  rw [or_nat _ _ a0 a1 b0 b1, bit_testBit _ _ (by omega), Int.toNat_natCast, Nat.testBit_or, bit_testBit _ _ a0, bit_testBit _ _ b0]
theorem bit_andNot (a b : Int) (i : Nat) (hi : i < 32) (a0 : 0 ≤ a) (a1 : a < 4294967296) (b0 : 0 ≤ b) (b1 : b < 4294967296) : bit (bits BinOp.andNot IntKind.u32 a b) i = (bit a i && !bit b i) := by
  rw [u32_andNot _ _ a0 a1 b0 b1, bit_testBit _ _ (by omega), Int.toNat_natCast, Nat.testBit_and, bit_testBit _ _ a0, bit_testBit _ _ b0,
    show 4294967295 - b.toNat = 2 ^ 32 - (b.toNat + 1) from by omega, Nat.testBit_two_pow_sub_succ (by omega)]
  simp [hi]
theorem stV_bounds (a wr cl v : Int) : 0 ≤ stV a wr cl v ∧ stV a wr cl v < 4294967296 := ob_bounds (stB a wr cl v) 32 (by omega)
theorem tnV_bounds (a up dn : Int) : 0 ≤ tnV a up dn ∧ tnV a up dn < 4294967296 := ob_bounds (tnB a up dn) 32 (by omega)
theorem bit_stV (a wr cl v : Int) (i : Nat) (hi : i < 32) : bit (stV a wr cl v) i = stB a wr cl v i := by
  unfold stV; rw [bit_ofBits]; simp [hi]
theorem bit_tnV (a up dn : Int) (i : Nat) (hi : i < 32) : bit (tnV a up dn) i = tnB a up dn i := by
  unfold tnV; rw [bit_ofBits]; simp [hi]
theorem bit_zero (i : Nat) : bit 0 i = false := by unfold bit; simp
theorem store_code (a wr cl v : Int) (a0 : 0 ≤ a) (a1 : a < 4294967296) (w0 : 0 ≤ wr) (w1 : wr < 4294967296) (c0 : 0 ≤ cl) (c1 : cl < 4294967296) (v0 : 0 ≤ v) (v1 : v < 4294967296) :
    bits BinOp.andNot IntKind.u32 (bits BinOp.or IntKind.u32 (bits BinOp.andNot IntKind.u32 a wr) (bits BinOp.and IntKind.u32 v wr)) (bits BinOp.and IntKind.u32 v cl) = stV a wr cl v := by
  obtain ⟨p0, p1⟩ := andNot_bounds a wr a0 a1 w0 w1
  obtain ⟨q0, q1⟩ := and_bounds v wr v0 v1 w0 w1
  obtain ⟨r0, r1⟩ := and_bounds v cl v0 v1 c0 c1
  obtain ⟨s0, s1⟩ := or_bounds _ _ p0 p1 q0 q1
  obtain ⟨t0, t1⟩ := andNot_bounds _ _ s0 s1 r0 r1
  obtain ⟨u0, u1⟩ := stV_bounds a wr cl v
  refine same_bits t0 t1 u0 u1 fun i hi => ?_
  rw [bit_andNot _ _ i hi s0 s1 r0 r1, bit_or _ _ i p0 p1 q0 q1, bit_andNot _ _ i hi a0 a1 w0 w1, bit_and _ _ i v0 v1 w0 w1, bit_and _ _ i v0 v1 c0 c1, bit_stV _ _ _ _ i hi]
  unfold stB
  cases bit a i <;> cases bit wr i <;> cases bit cl i <;> cases bit v i <;> rfl
theorem raise_code (a v : Int) (a0 : 0 ≤ a) (a1 : a < 4294967296) (v0 : 0 ≤ v) (v1 : v < 4294967296) : bits BinOp.or IntKind.u32 a v = tnV a v 0 := by
  obtain ⟨s0, s1⟩ := or_bounds _ _ a0 a1 v0 v1
  obtain ⟨u0, u1⟩ := tnV_bounds a v 0
  refine same_bits s0 s1 u0 u1 fun i hi => ?_
  rw [bit_or _ _ i a0 a1 v0 v1, bit_tnV _ _ _ i hi]
  unfold tnB; rw [bit_zero]; simp
theorem fall_code (a v : Int) (a0 : 0 ≤ a) (a1 : a < 4294967296) (v0 : 0 ≤ v) (v1 : v < 4294967296) : bits BinOp.andNot IntKind.u32 a v = tnV a 0 v := by
  obtain ⟨s0, s1⟩ := andNot_bounds _ _ a0 a1 v0 v1
  obtain ⟨u0, u1⟩ := tnV_bounds a 0 v
  refine same_bits s0 s1 u0 u1 fun i hi => ?_
  rw [bit_andNot _ _ i hi a0 a1 v0 v1, bit_tnV _ _ _ i hi]
  unfold tnB; rw [bit_zero]; simp
theorem turn_turn (a up dn : Int) : tnV (tnV a up 0) 0 dn = tnV a up dn := by
  obtain ⟨s0, s1⟩ := tnV_bounds (tnV a up 0) 0 dn
  obtain ⟨u0, u1⟩ := tnV_bounds a up dn
  refine same_bits s0 s1 u0 u1 fun i hi => ?_
  rw [bit_tnV _ _ _ i hi, bit_tnV _ _ _ i hi]
  unfold tnB; rw [bit_tnV _ _ _ i hi, bit_zero]; unfold tnB; rw [bit_zero]; simp
/-- Written the same again: as it was. -/
theorem store_again (a wr cl v : Int) : stV (stV a wr cl v) wr cl v = stV a wr cl v := by
  obtain ⟨s0, s1⟩ := stV_bounds (stV a wr cl v) wr cl v
  obtain ⟨u0, u1⟩ := stV_bounds a wr cl v
  refine same_bits s0 s1 u0 u1 fun i hi => ?_
  rw [bit_stV _ _ _ _ i hi, bit_stV _ _ _ _ i hi]
  unfold stB; rw [bit_stV _ _ _ _ i hi]; unfold stB
  cases bit a i <;> cases bit wr i <;> cases bit cl i <;> cases bit v i <;> rfl
end Go.Proofs.Ytafegmmcgghgaaa.B
namespace Go.Proofs.Ytafegmmcgghgaaa.B
set_option linter.unusedVariables false
set_option linter.unusedSimpArgs false
open Go.ChangeShapes Go.WideShapes Go.RowKit
theorem Fall (a s r c v : Int) (w : World) (a0 : 0 ≤ a) (a1 : a < 4294967296) (v0 : 0 ≤ v) (v1 : v < 4294967296) :
    Calls Try.prog 42 #[.agg #[.int .u32 a, .int .u32 s, .int .u32 r, .int .u32 c], .int .u32 v] w
      fun e w' => e = .returned (.agg #[.int .u32 (tnV a 0 v), .int .u32 s, .int .u32 r, .int .u32 c]) ∧ Below w.heap.size w w' := by
  go_enter Try.func42, Try.ntmps42
  go_wp2
  refine bodyPost_ret (v := .agg #[.int .u32 (tnV a 0 v), .int .u32 s, .int .u32 r, .int .u32 c]) ?_ rfl ?_
  · simp [results, Try.results42, go_sem]
    exact fall_code a v a0 a1 v0 v1
  · exact ⟨rfl, ((Below.refl _ _).alloc (Nat.le_refl _) _).alloc (by simp) _⟩
/-- Read-only. -/
def only (r c : Int) : Bool := (r == 0) && (c == 0)
theorem Only (a s r c : Int) (w : World) :
    Calls Try.prog 36 #[.agg #[.int .u32 a, .int .u32 s, .int .u32 r, .int .u32 c]] w
      fun e w' => e = .returned (.bool (only r c)) ∧ Below w.heap.size w w' := by
  cases h1 : (r == 0)
  all_goals
    cases h2 : (c == 0)
    all_goals
      go_enter Try.func36, Try.ntmps36
      go_wp2
      go_ret
      exact ⟨ret_bool (by unfold only; rw [h1, h2]; rfl), (Below.refl _ _).alloc (Nat.le_refl _) _⟩
theorem Store (a s r c v : Int) (w : World) (a0 : 0 ≤ a) (a1 : a < 4294967296) (r0 : 0 ≤ r) (r1 : r < 4294967296) (c0 : 0 ≤ c) (c1 : c < 4294967296) (v0 : 0 ≤ v) (v1 : v < 4294967296) :
    Calls Try.prog 39 #[.agg #[.int .u32 a, .int .u32 s, .int .u32 r, .int .u32 c], .int .u32 v] w
      fun e w' => e = .returned (.agg #[.int .u32 (stV a r c v), .int .u32 s, .int .u32 r, .int .u32 c]) ∧ Below w.heap.size w w' := by
  have hA := andNot_bounds a r a0 a1 r0 r1
  have hB := and_bounds v r v0 v1 r0 r1
  have hC := or_bounds _ _ hA.1 hA.2 hB.1 hB.2
  have hD := and_bounds v c v0 v1 c0 c1
  have hE := Lib.hid (fall_code _ _ hC.1 hC.2 hD.1 hD.2)
  have hF := Lib.hid (store_code a r c v a0 a1 r0 r1 c0 c1 v0 v1)
  go_enter Try.func39, Try.ntmps39
  go_wp2_with fail
  refine (Fall _ _ _ _ _ _ hC.1 hC.2 hD.1 hD.2).mono ?_
  rintro e w1 ⟨rfl, hb⟩
  obtain ⟨hc, hf⟩ := bcell hb
  have hz : w.heap.size + 1 < w1.heap.size := by have := hb.size; simp at this; omega
  go_wp2_with fail
  have hv : tnV (bits BinOp.or IntKind.u32 (bits BinOp.andNot IntKind.u32 a r) (bits BinOp.and IntKind.u32 v r)) 0 (bits BinOp.and IntKind.u32 v c) = stV a r c v := by rw [← hE.out, hF.out]
  refine bodyPost_ret (v := .agg #[.int .u32 (stV a r c v), .int .u32 s, .int .u32 r, .int .u32 c]) ?_ rfl ?_
  · simp [results, Try.results39, go_sem, hc, hz, hv]
  · exact ⟨rfl, (((((((Below.refl _ _).alloc (Nat.le_refl _) _).alloc (by simp) _).trans (hb.mono (by simp; omega))).setCell (by simp) _).setCell (by simp) _).setCell (by simp) _).setCell (by simp) _⟩
end Go.Proofs.Ytafegmmcgghgaaa.B
namespace Go.Proofs.Ytafegmmcgghgaaa.B
set_option linter.unusedVariables false
set_option linter.unusedSimpArgs false
open Go.ChangeShapes Go.WideShapes Go.RowKit Go.Sort
/-- A register, written. -/
def Rg.put (x : Rg) (v : Int) : Rg := ⟨stV x.v x.r x.c v, x.s, x.r, x.c⟩
theorem Rg.put_wf {x : Rg} (h : x.wf) (v : Int) : (x.put v).wf := ⟨stV_bounds _ _ _ _, h.2.1, h.2.2.1, h.2.2.2⟩
theorem fStore1 (x : Rg) (v : Int) (vb : Nat) (w : World) (hx : x.wf) (v0 : 0 ≤ v) (v1 : v < 4294967296) (hv : w.cell? ⟨vb, 0, none⟩ = some (.int .u32 v)) (hl : vb < w.heap.size) :
    Calls Try.prog 38 #[x.val, .pointer (some ⟨vb, 0, none⟩)] w fun e w' => e = .returned (x.put v).val ∧ Below w.heap.size w w' := by
  obtain ⟨a, s, r, c⟩ := x
  obtain ⟨⟨a0, a1⟩, _, ⟨r0, r1⟩, ⟨c0, c1⟩⟩ := hx
  simp only at a0 a1 r0 r1 c0 c1
  unfold Rg.val Rg.put
  go_enter Try.func38, Try.ntmps38
  go_wp2_with fail
  refine (Store a s r c v _ a0 a1 r0 r1 c0 c1 v0 v1).mono ?_
  rintro e w1 ⟨rfl, hb⟩
  have hX := blk_below hb (b2_1 w _ _) (by rw [b2_s]; omega)
  have hx0 := blk_cell hX 0
  have hx1 := blk_cell hX 1
  have hx2 := blk_cell hX 2
  have hx3 := blk_cell hX 3
  simp only [List.getElem?_toArray, List.getElem?_cons_zero, List.getElem?_cons_succ] at hx0 hx1 hx2 hx3
  have hf0 := blk_free hX 0
  have hf1 := blk_free hX 1
  have hf2 := blk_free hX 2
  have hf3 := blk_free hX 3
  have HX := Lib.hid hX
  have hbw : Below w.heap.size w w1 := tr (trA (trA (tr0 w) _) _) hb
  clear hX hb
  go_wp2_with fail
  have hY := blk_set (blk_set (blk_set (blk_set HX.out 0 (.int .u32 (stV a r c v))) 1 (.int .u32 s)) 2 (.int .u32 r)) 3 (.int .u32 c)
  have hbY : Below w.heap.size w ((((w1.setCell ⟨w.heap.size + 1, 0, none⟩ (.int .u32 (stV a r c v))).setCell ⟨w.heap.size + 1, 1, none⟩ (.int .u32 s)).setCell ⟨w.heap.size + 1, 2, none⟩ (.int .u32 r)).setCell ⟨w.heap.size + 1, 3, none⟩ (.int .u32 c)) :=
    (((hbw.setCell (Nat.le_add_right _ _) _).setCell (Nat.le_add_right _ _) _).setCell (Nat.le_add_right _ _) _).setCell (Nat.le_add_right _ _) _
  generalize ((((w1.setCell ⟨w.heap.size + 1, 0, none⟩ (.int .u32 (stV a r c v))).setCell ⟨w.heap.size + 1, 1, none⟩ (.int .u32 s)).setCell ⟨w.heap.size + 1, 2, none⟩ (.int .u32 r)).setCell ⟨w.heap.size + 1, 3, none⟩ (.int .u32 c)) = Y at hY hbY ⊢
  have hy0 := blk_cell hY 0
  have hy1 := blk_cell hY 1
  have hy2 := blk_cell hY 2
  have hy3 := blk_cell hY 3
  simp at hy0 hy1 hy2 hy3
  refine bodyPost_ret (v := .agg #[.int .u32 (stV a r c v), .int .u32 s, .int .u32 r, .int .u32 c]) ?_ rfl ⟨rfl, hbY⟩
  simp [results, Try.results38, go_sem, hy0, hy1, hy2, hy3]
theorem fChangeS (off : Int) (x : Rg) (v : Int) (vb f m : Nat) (M : List (Int × Rg)) (w : World) (v0 : 0 ≤ v) (v1 : v < 4294967296) (h0 : 0 ≤ off) (h1 : off < 4294967296) (h : (off % 4 != 0) = false) (hF : FileAt w f m M) (hin : (off, x) ∈ M)
    (hv : w.cell? ⟨vb, 0, none⟩ = some (.int .u32 v)) (hl : vb < w.heap.size) (hne : vb ≠ m) :
    Calls Try.prog 37 #[.pointer (some ⟨f, 0, none⟩), .int .u32 off, .func (.func 38) #[] #[.pointer (some ⟨vb, 0, none⟩)]] w
      fun e w' => e = .returned (.int .i64 0) ∧ FileAt w' f m (putF off (x.put v) M) ∧ Off (· = m) w w' := by
  have hfm : f ≠ m := fun e => by obtain ⟨_, _, hb, _⟩ := hF.map; rw [← e, hF.cell] at hb; cases hb
  have hxw : x.wf := hF.wf _ hin
  have hlf := hF.ltf
  go_enter Try.func37, Try.ntmps37
  go_wp2_with fail
  refine (fFind off x f m M _ h0 h hF hin).mono ?_
  rintro e w1 ⟨rfl, hb⟩
  have hF1 := hF.below hb
  have hc := blk_cell hF1.cell 0
  simp only [List.getElem?_toArray, List.getElem?_cons_zero] at hc
  have hlf1 := hF1.ltf
  have hv1 : w1.cell? ⟨vb, 0, none⟩ = some (.int .u32 v) := (hb.cell (p := ⟨vb, 0, none⟩) hl).trans hv
  have hl1 : vb < w1.heap.size := Nat.lt_of_lt_of_le hl hb.size
  have HF := Lib.hid hF1
  have HB := Lib.hid hb
  clear hF hF1 hb hv
  obtain ⟨a, s, r, c⟩ := x
  unfold Rg.val
  have hcl : ∀ (d : Nat) (os : Array Obj),
      Calls Try.prog 38 #[.agg #[.int .u32 a, .int .u32 s, .int .u32 r, .int .u32 c], .pointer (some ⟨vb, 0, none⟩)] (grow (redrawn (w1.alloc (.cells #[.int .u32 a, .int .u32 s, .int .u32 r, .int .u32 c] 28)) d) os)
        fun e w' => e = .returned (.agg #[.int .u32 (stV a r c v), .int .u32 s, .int .u32 r, .int .u32 c]) ∧ Below (grow (redrawn (w1.alloc (.cells #[.int .u32 a, .int .u32 s, .int .u32 r, .int .u32 c] 28)) d) os).heap.size (grow (redrawn (w1.alloc (.cells #[.int .u32 a, .int .u32 s, .int .u32 r, .int .u32 c] 28)) d) os) w' := by
    intro d os
    have hsz := (below_regrown (w1.alloc (.cells #[.int .u32 a, .int .u32 s, .int .u32 r, .int .u32 c] 28)) d os).size
    refine fStore1 ⟨a, s, r, c⟩ v vb _ hxw v0 v1 ?_ ?_
    · rw [gcell _ _ _ _ _ (by simp; omega)]; exact (World.cell?_alloc_old _ _ _ (by simp; omega)).trans hv1
    · exact Nat.lt_of_lt_of_le (by simp; omega) hsz
  go_wp2_with fail
  have hg := gcell
  have hf := gfrozen
  have hs1 : f < w1.heap.size + 1 := by omega
  refine wp_region_tail_below 9 (by kernel_rfl) (by kernel_rfl) ?_
  simp only [List.take_succ_cons, List.take_zero, List.drop_succ_cons, List.drop_zero]
  repeat (go_big_quiet_step (first
    | (go_at_call 38; exact Calls.regrown_of (hcl _ _))))
  refine wpQuiet_nil ?_
  intro _ hw'
  obtain ⟨⟨dq, osq⟩, hw''⟩ := hw'
  subst hw''
  have hb2 := trG (trA (tr0 w1) (.cells #[.int .u32 a, .int .u32 s, .int .u32 r, .int .u32 c] 28)) dq osq
  have hM2 := HF.out.map.below hb2 HF.out.ltm
  go_wp2_with (at_mapUpdate; refine wpList_put placeKey rfl _ _ _ _ rfl Try.underlying75 rfl hM2 off _ rfl rfl ⟨h0, h1⟩ ?_; intro w3 hM3 ho3)
  go_ret
  refine ⟨rfl, ?_, ((Off.ofBelow HB.out).next (Off.ofBelow hb2) (fun _ _ h => h)).trans ho3⟩
  exact HF.out.put (x := Rg.put ⟨a, s, r, c⟩ v) (Rg.put_wf hxw v) hfm hM3 ((ho3.block f (Nat.lt_of_lt_of_le hlf1 hb2.size) hfm).trans (hb2.block f hlf1))
/-- Written: a register that may be. -/
theorem fStore (off : Int) (x : Rg) (v : Int) (f m : Nat) (M : List (Int × Rg)) (w : World) (v0 : 0 ≤ v) (v1 : v < 4294967296) (h0 : 0 ≤ off) (h1 : off < 4294967296) (h : (off % 4 != 0) = false) (hF : FileAt w f m M) (hin : (off, x) ∈ M) (ho : only x.r x.c = false) :
    Calls Try.prog 11 #[.pointer (some ⟨f, 0, none⟩), .int .u32 off, .int .u32 v] w
      fun e w' => e = .returned (.int .i64 0) ∧ FileAt w' f m (putF off (x.put v) M) ∧ Off (· = m) w w' := by
  have hmf : ∀ (fn : Fn) (first cap : Array Value) (w : World), (Instr.makeFunc fn first cap).run Try.prog w = .ok (.func fn first cap) w := fun _ _ _ _ => rfl
  have hlm := hF.ltm
  go_enter Try.func11, Try.ntmps11
  go_wp2_with fail
  refine (fFind off x f m M _ h0 h (hF.below (trA (tr0 w) _)) hin).mono ?_
  rintro e w1 ⟨rfl, hb⟩
  have hb1 := tr (trA (tr0 w) _) hb
  have hv := (hb.cell (p := ⟨w.heap.size, 0, none⟩) (by simp)).trans (blk_cell (blk_new w (.cells #[.int .u32 v] 26)) 0)
  have hl : w.heap.size < w1.heap.size := Nat.lt_of_lt_of_le (by simp) hb.size
  simp only [List.getElem?_toArray, List.getElem?_cons_zero] at hv
  obtain ⟨a, s, r, c⟩ := x
  unfold Rg.val
  go_wp2_with fail
  refine (Only a s r c _).mono ?_
  rintro e w2 ⟨rfl, hb2⟩
  have hb3 := tr (trA hb1 (.cells #[.int .u32 a, .int .u32 s, .int .u32 r, .int .u32 c] 28)) hb2
  have hv2 := (hb2.cell (p := ⟨w.heap.size, 0, none⟩) (by simp; omega)).trans ((World.cell?_alloc_old _ _ _ (by simp; omega)).trans hv)
  have hl2 : w.heap.size < w2.heap.size := Nat.lt_of_lt_of_le (by simp; omega) hb2.size
  have HB := Lib.hid hb3
  clear hb hb1 hb2 hb3 hv
  go_wp2_with fail
  refine (fChangeS off ⟨a, s, r, c⟩ v w.heap.size f m M _ v0 v1 h0 h1 h (hF.below HB.out) hin hv2 hl2 (by omega)).mono ?_
  rintro e w3 ⟨rfl, hF3, ho3⟩
  go_wp2_with fail
  go_ret
  exact ⟨rfl, hF3, (Off.ofBelow HB.out).trans ho3⟩
end Go.Proofs.Ytafegmmcgghgaaa.B
namespace Go.Proofs.Ytafegmmcgghgaaa.B
set_option linter.unusedVariables false
set_option linter.unusedSimpArgs false
open Go.ChangeShapes Go.WideShapes Go.RowKit Go.Sort
set_option maxRecDepth 100000 in
/-- The same for a store. -/
theorem zReachS (p bm : Nat) (rv sv : Value) (R : List (Int × Int)) (L : List Seat) (a b s v : Int) (f vb : Nat) (D : Nat → Prop) (T : World → Prop) (w : World)
    (a0 : 0 ≤ a) (a1 : a < 4294967296) (h : (a % 4 != 0) = false) (hB : BusAt w p bm rv sv R L) (hfd : findL a L = (.agg #[.int .u32 b, .int .u32 s, .iface 23 (.pointer (some ⟨f, 0, none⟩))], 0)) (hb0 : 0 ≤ b) (hba : b ≤ a) (hDp : ¬ D p) (hDl : ∀ k, D k → k < w.heap.size)
    (hdev : ∀ w', Off (· = p) w w' → Calls Try.prog 53 #[.iface 23 (.pointer (some ⟨f, 0, none⟩)), .int .u32 (a - b), .pointer (some ⟨vb, 0, none⟩)] w' fun e w'' => e = .returned (.tuple #[.int .u32 v, .int .i64 0]) ∧ Off D w' w'' ∧ T w'')
    (hT : ∀ u u', T u → Off (fun k => k = p ∨ w.heap.size ≤ k) u u' → T u') :
    Calls Try.prog 52 #[.pointer (some ⟨p, 0, none⟩),   .int .u32 a, .func (.func 53) #[] #[.pointer (some ⟨vb, 0, none⟩)]] w fun e w' => e = .returned (.tuple #[.int .u32 v, .int .i64 0]) ∧ Off D w w' ∧ T w' := by
  have hmf : ∀ (fn : Fn) (first cap : Array Value) (w : World), (Instr.makeFunc fn first cap).run Try.prog w = .ok (.func fn first cap) w := fun _ _ _ _ => rfl
  go_enter_defers Try.func52, Try.ntmps52
  go_wp2_with fail
  refine (zFind a _ _ p bm rv sv R L _ a0 a1 h ?_ hfd).mono ?_
  · exact hB.ofBelow (trA (trA (trA (tr0 w) _) _) _)
  rintro e w1 ⟨rfl, hb1⟩
  have hP := blk_below hb1 ((b3_o w _ _ _ hB.ltp).trans hB.cell) (by rw [b3_s]; have := hB.ltp; omega)
  have hX0 := blk_below hb1 (b3_0 w _ _ _) (by rw [b3_s]; omega)
  have hX1 := blk_below hb1 (b3_1 w _ _ _) (by rw [b3_s]; omega)
  have hX2 := blk_below hb1 (b3_2 w _ _ _) (by rw [b3_s]; omega)
  have hx2 := blk_cell hX2 0
  simp only [List.getElem?_toArray, List.getElem?_cons_zero, List.getElem?_cons_succ] at hx2
  have hf2 := blk_free hX2 0
  have hl0 := lt_of_block hX0
  have hl1 := lt_of_block hX1
  have hl2 := lt_of_block hX2
  have hlp0 := hB.ltp
  have hlp := lt_of_block hP
  have hbw : Below w.heap.size w w1 := tr (trA (trA (trA (tr0 w) _) _) _) hb1
  have HX0 := Lib.hid hX0
  have HX1 := Lib.hid hX1
  have HX2 := Lib.hid hX2
  have HP := Lib.hid hP
  have HB := Lib.hid hB
  clear hX0 hX1 hX2 hb1 hP hB
  go_upto_region 2 with (fail)
  have hY0 := (blk_old (w1.setCell ⟨w.heap.size + 1 + 1, 0, none⟩ (.int .i64 0)) (.cells #[.int .u32 b, .int .u32 s, .iface 23 (.pointer (some ⟨f, 0, none⟩))] 109) (by simpa using hl0)).trans (blk_else HX0.out (w.heap.size + 1 + 1) 0 (.int .i64 0) (by omega))
  have hY1 := (blk_old (w1.setCell ⟨w.heap.size + 1 + 1, 0, none⟩ (.int .i64 0)) (.cells #[.int .u32 b, .int .u32 s, .iface 23 (.pointer (some ⟨f, 0, none⟩))] 109) (by simpa using hl1)).trans (blk_else HX1.out (w.heap.size + 1 + 1) 0 (.int .i64 0) (by omega))
  have hY2 := (blk_old (w1.setCell ⟨w.heap.size + 1 + 1, 0, none⟩ (.int .i64 0)) (.cells #[.int .u32 b, .int .u32 s, .iface 23 (.pointer (some ⟨f, 0, none⟩))] 109) (by simpa using hl2)).trans (blk_set HX2.out 0 (.int .i64 0))
  have hYP := (blk_old (w1.setCell ⟨w.heap.size + 1 + 1, 0, none⟩ (.int .i64 0)) (.cells #[.int .u32 b, .int .u32 s, .iface 23 (.pointer (some ⟨f, 0, none⟩))] 109) (by simpa using hlp)).trans (blk_else HP.out (w.heap.size + 1 + 1) 0 (.int .i64 0) (by omega))
  have hYS := blk_new (w1.setCell ⟨w.heap.size + 1 + 1, 0, none⟩ (.int .i64 0)) (.cells #[.int .u32 b, .int .u32 s, .iface 23 (.pointer (some ⟨f, 0, none⟩))] 109)
  have hbW : Below w.heap.size w ((w1.setCell ⟨w.heap.size + 1 + 1, 0, none⟩ (.int .i64 0)).alloc (.cells #[.int .u32 b, .int .u32 s, .iface 23 (.pointer (some ⟨f, 0, none⟩))] 109)) := trA (hbw.setCell (p := ⟨w.heap.size + 1 + 1, 0, none⟩) (by show w.heap.size ≤ w.heap.size + 1 + 1; omega) _) _
  generalize ((w1.setCell ⟨w.heap.size + 1 + 1, 0, none⟩ (.int .i64 0)).alloc (.cells #[.int .u32 b, .int .u32 s, .iface 23 (.pointer (some ⟨f, 0, none⟩))] 109)) = W at *
  have hY2 : W.heap[w.heap.size + 2]? = some (.cells #[.int .i64 0] 34 (0, 0)) := by simpa using hY2
  have hYS : W.heap[w1.heap.size]? = some (.cells #[.int .u32 b, .int .u32 s, .iface 23 (.pointer (some ⟨f, 0, none⟩))] 109 (0, 0)) := by simpa using hYS
  clear hx2 hf2 HX0 HX1 HX2 HP hbw
  have hx0 := blk_cell hY0 0
  have hx2 := blk_cell hY2 0
  have hp2 := blk_cell hYP 2
  have hs0 := blk_cell hYS 0
  have hs2 := blk_cell hYS 2
  simp only [List.getElem?_toArray, List.getElem?_cons_zero, List.getElem?_cons_succ] at hx0 hx2 hp2 hs0 hs2
  have hfp := blk_free hYP 2
  have hlq := lt_of_block hYS
  have hn1 : (p == w.heap.size) = false := by simp; omega
  have hn2 : (p == w1.heap.size) = false := by simp; omega
  have H0 := Lib.hid hY0
  have H1 := Lib.hid hY1
  have H2 := Lib.hid hY2
  have HP := Lib.hid hYP
  have HS := Lib.hid hYS
  clear hY0 hY1 hY2 hYP hYS
  go_upto_region 8 with (fail)
  clear hx0 hx2 hp2 hfp hn1 hn2
  go_wp2_with fail
  have ho1 : Off (· = p) w (W.setCell ⟨p, 2, none⟩ (.int .i64 1)) := (Off.ofBelow hbW).trans (Off.ofSetCell W ⟨p, 2, none⟩ _ rfl)
  refine (hdev _ ho1).mono ?_
  rintro e Z ⟨rfl, ho2, hTZ⟩
  have hZ0 := ho2.at (blk_else H0.out p 2 (.int .i64 1) (by omega)) (fun h => by have := hDl _ h; omega)
  have hZ1 := ho2.at (blk_else H1.out p 2 (.int .i64 1) (by omega)) (fun h => by have := hDl _ h; omega)
  have hZ2 := ho2.at (blk_else H2.out p 2 (.int .i64 1) (by omega)) (fun h => by have := hDl _ h; omega)
  have hZP := ho2.at (blk_set HP.out 2 (.int .i64 1)) hDp
  have hz1 := blk_cell hZ1 0
  have hz2 := blk_cell hZ2 0
  simp only [List.getElem?_toArray, List.getElem?_cons_zero, List.getElem?_cons_succ] at hz1 hz2
  have hfz1 := blk_free hZ1 0
  have hfz2 := blk_free hZ2 0
  have G0 := Lib.hid hZ0
  have G1 := Lib.hid hZ1
  have G2 := Lib.hid hZ2
  have GP := Lib.hid hZP
  have O1 := Lib.hid ho1
  have O2 := Lib.hid ho2
  clear hZ0 hZ1 hZ2 hZP ho1 ho2 hdev H0 H1 H2 HS
  go_wp2_with fail
  have hQ0 := blk_else (blk_else G0.out (w.heap.size + 1) 0 (.int .u32 v) (by omega)) (w.heap.size + 1 + 1) 0 (.int .i64 0) (by omega)
  have hQ1 := blk_else (blk_set G1.out 0 (.int .u32 v)) (w.heap.size + 1 + 1) 0 (.int .i64 0) (by omega)
  have hQ2 := blk_set (blk_else G2.out (w.heap.size + 1) 0 (.int .u32 v) (by omega)) 0 (.int .i64 0)
  have hQP := blk_else (blk_else GP.out (w.heap.size + 1) 0 (.int .u32 v) (by omega)) (w.heap.size + 1 + 1) 0 (.int .i64 0) (by omega)
  have hOY : Off (fun k => k = p ∨ D k) w (((Z.setCell ⟨w.heap.size + 1, 0, none⟩ (.int .u32 v)).setCell ⟨w.heap.size + 1 + 1, 0, none⟩ (.int .i64 0))) := by
    refine ((O1.out.andThen O2.out (U := fun k => k = p ∨ D k) (fun _ _ h => .inl h) (fun _ _ h => .inr h)).andThen (T := (· = w.heap.size + 1)) (Off.ofSetCell _ _ _ rfl) (fun _ _ h => h) (fun i hi h => by omega)).andThen (T := (· = w.heap.size + 1 + 1)) (Off.ofSetCell _ _ _ rfl) (fun _ _ h => h) (fun i hi h => by omega)
  refine leaves_cons (f := 68) (args := #[.pointer (some ⟨w.heap.size, 0, none⟩), .pointer (some ⟨w.heap.size + 1 + 1, 0, none⟩), .pointer (some ⟨w.heap.size + 1, 0, none⟩)]) (by simp) (by simp [go_sem]) ?_
  refine (zDefer0 w.heap.size (w.heap.size + 1 + 1) (w.heap.size + 1) p _ ?_ ?_ ?_ ?_ ?_).mono ?_
  · simpa using blk_cell hQ0 0
  · simpa using blk_cell hQP 2
  · exact blk_free hQP 2
  · simpa using blk_cell hQ2 0
  · omega
  rintro e u' Y ⟨rfl, rfl, rfl⟩
  refine reach_ret (Q := fun w' => Off D w w' ∧ T w') rfl rfl (blk_else hQ1 p 2 _ (by omega)) (blk_else hQ2 p 2 _ (by omega)) ?_
  refine ⟨(hOY.andThen (Off.ofSetCell _ ⟨p, 2, none⟩ (.int .i64 0) (S := (· = p)) rfl) (U := fun k => k = p ∨ D k) (fun _ _ h => h) (fun _ _ h => .inl h)).restored ?_, hT _ _ hTZ ((Off.ofSetCell _ _ _ ?_).trans ((Off.ofSetCell _ _ _ ?_).trans (Off.ofSetCell _ _ _ ?_)))⟩
  · rintro k hk (rfl | hD) hnD
    · have h1 := blk_set hQP 2 (.int .i64 0)
      rw [HB.out.cell]
      simpa using h1
    · exact absurd hD hnD
  · right; show w.heap.size ≤ w.heap.size + 1; omega
  · right; show w.heap.size ≤ w.heap.size + 1 + 1; omega
  · left; rfl
end Go.Proofs.Ytafegmmcgghgaaa.B
namespace Go.Proofs.Ytafegmmcgghgaaa.B
set_option linter.unusedVariables false
set_option linter.unusedSimpArgs false
open Go.ChangeShapes Go.WideShapes Go.RowKit Go.Sort
theorem mkf : ∀ (fn : Fn) (first cap : Array Value) (w : World), (Instr.makeFunc fn first cap).run Try.prog w = .ok (.func fn first cap) w := fun _ _ _ _ => rfl
/-- An access without a device. -/
theorem zLoadErr (pa : Option Addr) (a E : Int) (w : World) (hE : (E != 0) = true)
    (hf : ∀ w', Below w.heap.size w w' → Calls Try.prog 55 #[.pointer pa, .int .u32 a] w' fun e w'' => e = .returned (.tuple #[zeroSeatV, .int .i64 E]) ∧ Below w'.heap.size w' w'') :
    Calls Try.prog 23 #[.pointer pa, .int .u32 a] w fun e w' => e = .returned (.tuple #[.int .u32 0, .int .i64 E]) ∧ Below w.heap.size w w' := by
  have hmf := mkf
  go_enter Try.func23, Try.ntmps23
  go_wp2_with fail
  refine (zReachErr pa a E _ _ hE hf).mono ?_
  rintro e w1 ⟨rfl, hb⟩
  go_wp2_with fail
  go_ret2
  exact ⟨rfl, hb⟩
theorem zStoreErr (pa : Option Addr) (a E v : Int) (w : World) (hE : (E != 0) = true)
    (hf : ∀ w', Below w.heap.size w w' → Calls Try.prog 55 #[.pointer pa, .int .u32 a] w' fun e w'' => e = .returned (.tuple #[zeroSeatV, .int .i64 E]) ∧ Below w'.heap.size w' w'') :
    Calls Try.prog 25 #[.pointer pa, .int .u32 a, .int .u32 v] w fun e w' => e = .returned (.int .i64 E) ∧ Below w.heap.size w w' := by
  have hmf := mkf
  go_enter Try.func25, Try.ntmps25
  go_wp2_with fail
  refine (zReachErr pa a E _ _ hE (fun w' h => hf w' (tr (trA (tr0 w) _) h))).mono ?_
  rintro e w1 ⟨rfl, hb⟩
  go_wp2_with fail
  go_ret
  exact ⟨rfl, tr (trA (tr0 w) _) hb⟩
/-- The end of Find. -/
theorem findX_ret {w Y : World} {tmps : Array Value} {b s o e : Int} (h4 : tmps[4]? = some (.pointer (some ⟨w.heap.size, 0, none⟩))) (h5 : tmps[5]? = some (.int .u32 o)) (h6 : tmps[6]? = some (.int .i64 e))
    (hY : Y.heap[w.heap.size]? = some (.cells #[.int .u32 b, .int .u32 s] 55 (0, 0))) {Q : World → Prop} (hQ : Q Y) :
    bodyPost Try.prog Try.f27 (fun e' w' => e' = .returned (.tuple #[.agg #[.int .u32 b, .int .u32 s], .int .u32 o, .int .i64 e]) ∧ Q w') Exit.ret { tmps := tmps, defers := [] } Y := by
  have hy0 := blk_cell hY 0
  have hy1 := blk_cell hY 1
  simp at hy0 hy1
  refine bodyPost_ret (v := .tuple #[.agg #[.int .u32 b, .int .u32 s], .int .u32 o, .int .i64 e]) ?_ rfl ⟨rfl, hQ⟩
  simp [results, Try.results27, go_sem, h4, h5, h6, hy0, hy1]
theorem zFindXErr (pa : Option Addr) (a E : Int) (w : World) (hE : (E != 0) = true)
    (hf : ∀ w', Below w.heap.size w w' → Calls Try.prog 55 #[.pointer pa, .int .u32 a] w' fun e w'' => e = .returned (.tuple #[zeroSeatV, .int .i64 E]) ∧ Below w'.heap.size w' w'') :
    Calls Try.prog 27 #[.pointer pa, .int .u32 a] w fun e w' => e = .returned (.tuple #[.agg #[.int .u32 0, .int .u32 0], .int .u32 0, .int .i64 E]) ∧ Below w.heap.size w w' := by
  unfold zeroSeatV at hf
  go_enter Try.func27, Try.ntmps27
  go_wp2_with fail
  refine (hf _ (trA (tr0 w) _)).mono ?_
  rintro e w1 ⟨rfl, hb⟩
  have hX := blk_below hb (blk_new w _) (by simp)
  have hx0 := blk_cell hX 0
  have hx1 := blk_cell hX 1
  simp only [List.getElem?_toArray, List.getElem?_cons_zero, List.getElem?_cons_succ] at hx0 hx1
  have hf0 := blk_free hX 0
  have hf1 := blk_free hX 1
  have HX := Lib.hid hX
  have hl := lt_of_block hX
  have hbw := tr (trA (tr0 w) _) hb
  clear hX hb hf
  go_wp2_with fail
  exact findX_ret rfl rfl rfl ((blk_old _ _ (by simpa using hl)).trans (blk_set (blk_set HX.out 0 _) 1 _)) (trA ((hbw.setCell (Nat.le_refl _) _).setCell (Nat.le_refl _) _) _)
theorem zFindX (p bm : Nat) (rv sv : Value) (R : List (Int × Int)) (L : List Seat) (a b s : Int) (f : Nat) (w : World) (a0 : 0 ≤ a) (a1 : a < 4294967296) (h : (a % 4 != 0) = false) (hB : BusAt w p bm rv sv R L)
    (hfd : findL a L = (.agg #[.int .u32 b, .int .u32 s, .iface 23 (.pointer (some ⟨f, 0, none⟩))], 0)) (hb0 : 0 ≤ b) (hba : b ≤ a) :
    Calls Try.prog 27 #[.pointer (some ⟨p, 0, none⟩), .int .u32 a] w fun e w' => e = .returned (.tuple #[.agg #[.int .u32 b, .int .u32 s], .int .u32 (a - b), .int .i64 0]) ∧ Below w.heap.size w w' := by
  go_enter Try.func27, Try.ntmps27
  go_wp2_with fail
  refine (zFind a _ _ p bm rv sv R L _ a0 a1 h (hB.ofBelow (trA (tr0 w) _)) hfd).mono ?_
  rintro e w1 ⟨rfl, hb⟩
  have hX := blk_below hb (blk_new w _) (by simp)
  have hl := lt_of_block hX
  have hbw := tr (trA (tr0 w) _) hb
  clear hb
  go_upto_region 2 with (fail)
  have hX1 := (blk_old w1 (.cells #[.int .u32 b, .int .u32 s, .iface 23 (.pointer (some ⟨f, 0, none⟩))] 109) hl).trans hX
  have hS1 := blk_new w1 (.cells #[.int .u32 b, .int .u32 s, .iface 23 (.pointer (some ⟨f, 0, none⟩))] 109)
  have hbW := trA hbw (.cells #[.int .u32 b, .int .u32 s, .iface 23 (.pointer (some ⟨f, 0, none⟩))] 109)
  generalize (w1.alloc (.cells #[.int .u32 b, .int .u32 s, .iface 23 (.pointer (some ⟨f, 0, none⟩))] 109)) = W at *
  have hx0 := blk_cell hX1 0
  have hx1 := blk_cell hX1 1
  have hs0 := blk_cell hS1 0
  have hs1 := blk_cell hS1 1
  simp only [List.getElem?_toArray, List.getElem?_cons_zero, List.getElem?_cons_succ] at hx0 hx1 hs0 hs1
  have hf0 := blk_free hX1 0
  have hf1 := blk_free hX1 1
  have HX := Lib.hid hX1
  clear hX1 hS1 hX
  go_wp2_with fail
  go_region
  go_wp2_with fail
  exact findX_ret (Y := World.drew _) rfl rfl rfl (blk_set (blk_set HX.out 0 _) 1 _) (trD ((hbW.setCell (Nat.le_refl _) _).setCell (Nat.le_refl _) _))
/-- A load that a file answers. -/
theorem zLoad (p bm : Nat) (rv sv : Value) (R : List (Int × Int)) (L : List Seat) (a b s : Int) (f m : Nat) (M : List (Int × Rg)) (x : Rg) (w : World) (a0 : 0 ≤ a) (a1 : a < 4294967296) (h : (a % 4 != 0) = false) (hB : BusAt w p bm rv sv R L)
    (hfd : findL a L = (.agg #[.int .u32 b, .int .u32 s, .iface 23 (.pointer (some ⟨f, 0, none⟩))], 0)) (hb0 : 0 ≤ b) (hba : b ≤ a) (hF : FileAt w f m M) (hin : (a - b, x) ∈ M) (hoff : ((a - b) % 4 != 0) = false) (hfp : f ≠ p) (hmp : m ≠ p) :
    Calls Try.prog 23 #[.pointer (some ⟨p, 0, none⟩), .int .u32 a] w fun e w' => e = .returned (.tuple #[.int .u32 x.v, .int .i64 0]) ∧ Below w.heap.size w w' := by
  have hmf := mkf
  go_enter Try.func23, Try.ntmps23
  go_wp2_with fail
  refine (zReach p bm rv sv R L a b s x.v f (fun _ => False) (fun _ => True) _ a0 a1 h hB hfd hb0 hba (fun h => h) (fun _ h => h.elim) (fun w' ho => ?_) (fun _ _ _ _ => trivial)).mono ?_
  · refine (fLoad (a - b) x f m M w' (by omega) hoff (hF.off ho hfp hmp) hin).mono ?_
    rintro e w2 ⟨rfl, hb⟩
    exact ⟨rfl, Off.ofBelow hb, trivial⟩
  rintro e w1 ⟨rfl, ho, _⟩
  go_wp2_with fail
  go_ret2
  exact ⟨rfl, ho.below (fun _ _ h => h) (Nat.le_refl _)⟩
/-- The closure of a store. -/
theorem zClosS (off : Int) (x : Rg) (v : Int) (f m vb : Nat) (M : List (Int × Rg)) (w : World) (v0 : 0 ≤ v) (v1 : v < 4294967296) (h0 : 0 ≤ off) (h1 : off < 4294967296) (h : (off % 4 != 0) = false) (hF : FileAt w f m M) (hin : (off, x) ∈ M) (ho : only x.r x.c = false)
    (hv : w.cell? ⟨vb, 0, none⟩ = some (.int .u32 v)) :
    Calls Try.prog 53 #[.iface 23 (.pointer (some ⟨f, 0, none⟩)), .int .u32 off, .pointer (some ⟨vb, 0, none⟩)] w
      fun e w' => e = .returned (.tuple #[.int .u32 0, .int .i64 0]) ∧ FileAt w' f m (putF off (x.put v) M) ∧ Off (· = m) w w' := by
  have hm : ∀ (n : Nat) (w : World), (method (n + 1) 23 (.pointer (some ⟨f, 0, none⟩)) "Store").run Try.prog w = .ok (11, .pointer (some ⟨f, 0, none⟩)) w := fun _ _ => by kernel_rfl
  go_enter Try.func53, Try.ntmps53
  go_wp2_with fail
  refine (fStore off x v f m M _ v0 v1 h0 h1 h hF hin ho).mono ?_
  rintro e w1 ⟨rfl, hF1, ho1⟩
  go_wp2_with fail
  go_ret2
  exact ⟨rfl, hF1, ho1⟩
/-- A store that a file answers. -/
theorem zStore (p bm : Nat) (rv sv : Value) (R : List (Int × Int)) (L : List Seat) (a b s v : Int) (f m : Nat) (M : List (Int × Rg)) (x : Rg) (w : World) (a0 : 0 ≤ a) (a1 : a < 4294967296) (v0 : 0 ≤ v) (v1 : v < 4294967296) (h : (a % 4 != 0) = false) (hB : BusAt w p bm rv sv R L)
    (hfd : findL a L = (.agg #[.int .u32 b, .int .u32 s, .iface 23 (.pointer (some ⟨f, 0, none⟩))], 0)) (hb0 : 0 ≤ b) (hba : b ≤ a) (hF : FileAt w f m M) (hin : (a - b, x) ∈ M) (ho : only x.r x.c = false) (hoff : ((a - b) % 4 != 0) = false) (hfp : f ≠ p) (hmp : m ≠ p) :
    Calls Try.prog 25 #[.pointer (some ⟨p, 0, none⟩), .int .u32 a, .int .u32 v] w fun e w' => e = .returned (.int .i64 0) ∧ Off (· = m) w w' ∧ FileAt w' f m (putF (a - b) (x.put v) M) := by
  have hmf := mkf
  have hlp := hB.ltp
  have hlm := hF.ltm
  have hlf := hF.ltf
  go_enter Try.func25, Try.ntmps25
  go_wp2_with fail
  refine (zReachS p bm rv sv R L a b s 0 f w.heap.size (· = m) (fun u => FileAt u f m (putF (a - b) (x.put v) M)) _ a0 a1 h (hB.ofBelow (trA (tr0 w) _)) hfd hb0 hba (fun h => hmp h.symm) (fun k h => by simp; omega) (fun w' ho' => ?_) (fun u u' hu hu' => ?_)).mono ?_
  · refine (zClosS (a - b) x v f m w.heap.size M w' v0 v1 (by omega) (by omega) hoff ((hF.below (trA (tr0 w) _)).off ho' hfp hmp) hin ho ?_).mono ?_
    · rw [ho'.cell (by simp) (by show ¬ w.heap.size = p; omega)]; exact blk_cell (blk_new w (.cells #[.int .u32 v] 26)) 0
    rintro e w2 ⟨rfl, hF2, ho2⟩
    exact ⟨rfl, ho2, hF2⟩
  · refine hu.off hu' ?_ ?_ <;> (intro hc; simp at hc; omega)
  rintro e w1 ⟨rfl, ho1, hF1⟩
  go_wp2_with fail
  go_ret
  exact ⟨rfl, (Off.ofAlloc w _).trans ho1, hF1⟩
end Go.Proofs.Ytafegmmcgghgaaa.B
namespace Go.Proofs.Ytafegmmcgghgaaa.B
set_option linter.unusedVariables false
set_option linter.unusedSimpArgs false
open Go.ChangeShapes Go.WideShapes Go.RowKit Go.Sort
set_option maxRecDepth 100000 in
/-- The same for a store. -/
theorem uReachS (p bm : Nat) (rv : Value) (R : List (Int × Int)) (ks : List Int) (pv : Int → Value) (Lp : Int → List Su) (a b s v E : Int) (xt : TypeId) (xv : Value) (vb : Nat) (D : Nat → Prop) (T : World → Prop) (w : World)
    (a0 : 0 ≤ a) (a1 : a < 4294967296) (h : (a % 4 != 0) = false) (hB : UBus w p bm rv R ks pv Lp) (hvE : E ≠ 0 → v = 0) (hfd : findU a (Lp (a / 16777216)) = (.agg #[.int .u32 b, .int .u32 s, .iface xt xv], 0)) (hb0 : 0 ≤ b) (hba : b ≤ a) (hDp : ¬ D p) (hDl : ∀ k, D k → k < w.heap.size)
    (hdev : ∀ w', Off (· = p) w w' → Calls Try.prog 53 #[.iface xt xv, .int .u32 (a - b), .pointer (some ⟨vb, 0, none⟩)] w' fun e w'' => e = .returned (.tuple #[.int .u32 v, .int .i64 E]) ∧ Off D w' w'' ∧ T w'')
    (hT : ∀ u u', T u → Off (fun k => k = p ∨ w.heap.size ≤ k) u u' → T u') :
    Calls Try.prog 52 #[.pointer (some ⟨p, 0, none⟩),   .int .u32 a, .func (.func 53) #[] #[.pointer (some ⟨vb, 0, none⟩)]] w fun e w' => e = .returned (.tuple #[.int .u32 v, .int .i64 E]) ∧ Off D w w' ∧ T w' := by
  have hmf : ∀ (fn : Fn) (first cap : Array Value) (w : World), (Instr.makeFunc fn first cap).run Try.prog w = .ok (.func fn first cap) w := fun _ _ _ _ => rfl
  go_enter_defers Try.func52, Try.ntmps52
  go_wp2_with fail
  refine (uFind a _ _ p bm rv R ks pv Lp _ a0 a1 h ?_ hfd).mono ?_
  · exact hB.ofBelow (trA (trA (trA (tr0 w) _) _) _)
  rintro e w1 ⟨rfl, hb1⟩
  have hP := blk_below hb1 ((b3_o w _ _ _ hB.ltp).trans hB.cell) (by rw [b3_s]; have := hB.ltp; omega)
  have hX0 := blk_below hb1 (b3_0 w _ _ _) (by rw [b3_s]; omega)
  have hX1 := blk_below hb1 (b3_1 w _ _ _) (by rw [b3_s]; omega)
  have hX2 := blk_below hb1 (b3_2 w _ _ _) (by rw [b3_s]; omega)
  have hx2 := blk_cell hX2 0
  simp only [List.getElem?_toArray, List.getElem?_cons_zero, List.getElem?_cons_succ] at hx2
  have hf2 := blk_free hX2 0
  have hl0 := lt_of_block hX0
  have hl1 := lt_of_block hX1
  have hl2 := lt_of_block hX2
  have hlp0 := hB.ltp
  have hlp := lt_of_block hP
  have hbw : Below w.heap.size w w1 := tr (trA (trA (trA (tr0 w) _) _) _) hb1
  have HX0 := Lib.hid hX0
  have HX1 := Lib.hid hX1
  have HX2 := Lib.hid hX2
  have HP := Lib.hid hP
  have HB := Lib.hid hB
  clear hX0 hX1 hX2 hb1 hP hB
  go_upto_region 2 with (fail)
  have hY0 := (blk_old (w1.setCell ⟨w.heap.size + 1 + 1, 0, none⟩ (.int .i64 0)) (.cells #[.int .u32 b, .int .u32 s, .iface xt xv] 109) (by simpa using hl0)).trans (blk_else HX0.out (w.heap.size + 1 + 1) 0 (.int .i64 0) (by omega))
  have hY1 := (blk_old (w1.setCell ⟨w.heap.size + 1 + 1, 0, none⟩ (.int .i64 0)) (.cells #[.int .u32 b, .int .u32 s, .iface xt xv] 109) (by simpa using hl1)).trans (blk_else HX1.out (w.heap.size + 1 + 1) 0 (.int .i64 0) (by omega))
  have hY2 := (blk_old (w1.setCell ⟨w.heap.size + 1 + 1, 0, none⟩ (.int .i64 0)) (.cells #[.int .u32 b, .int .u32 s, .iface xt xv] 109) (by simpa using hl2)).trans (blk_set HX2.out 0 (.int .i64 0))
  have hYP := (blk_old (w1.setCell ⟨w.heap.size + 1 + 1, 0, none⟩ (.int .i64 0)) (.cells #[.int .u32 b, .int .u32 s, .iface xt xv] 109) (by simpa using hlp)).trans (blk_else HP.out (w.heap.size + 1 + 1) 0 (.int .i64 0) (by omega))
  have hYS := blk_new (w1.setCell ⟨w.heap.size + 1 + 1, 0, none⟩ (.int .i64 0)) (.cells #[.int .u32 b, .int .u32 s, .iface xt xv] 109)
  have hbW : Below w.heap.size w ((w1.setCell ⟨w.heap.size + 1 + 1, 0, none⟩ (.int .i64 0)).alloc (.cells #[.int .u32 b, .int .u32 s, .iface xt xv] 109)) := trA (hbw.setCell (p := ⟨w.heap.size + 1 + 1, 0, none⟩) (by show w.heap.size ≤ w.heap.size + 1 + 1; omega) _) _
  generalize ((w1.setCell ⟨w.heap.size + 1 + 1, 0, none⟩ (.int .i64 0)).alloc (.cells #[.int .u32 b, .int .u32 s, .iface xt xv] 109)) = W at *
  have hY2 : W.heap[w.heap.size + 2]? = some (.cells #[.int .i64 0] 34 (0, 0)) := by simpa using hY2
  have hYS : W.heap[w1.heap.size]? = some (.cells #[.int .u32 b, .int .u32 s, .iface xt xv] 109 (0, 0)) := by simpa using hYS
  clear hx2 hf2 HX0 HX1 HX2 HP hbw
  have hx0 := blk_cell hY0 0
  have hx2 := blk_cell hY2 0
  have hp2 := blk_cell hYP 2
  have hs0 := blk_cell hYS 0
  have hs2 := blk_cell hYS 2
  simp only [List.getElem?_toArray, List.getElem?_cons_zero, List.getElem?_cons_succ] at hx0 hx2 hp2 hs0 hs2
  have hfp := blk_free hYP 2
  have hlq := lt_of_block hYS
  have hn1 : (p == w.heap.size) = false := by simp; omega
  have hn2 : (p == w1.heap.size) = false := by simp; omega
  have H0 := Lib.hid hY0
  have H1 := Lib.hid hY1
  have H2 := Lib.hid hY2
  have HP := Lib.hid hYP
  have HS := Lib.hid hYS
  clear hY0 hY1 hY2 hYP hYS
  go_upto_region 8 with (fail)
  clear hx0 hx2 hp2 hfp hn1 hn2
  go_wp2_with fail
  have ho1 : Off (· = p) w (W.setCell ⟨p, 2, none⟩ (.int .i64 1)) := (Off.ofBelow hbW).trans (Off.ofSetCell W ⟨p, 2, none⟩ _ rfl)
  refine (hdev _ ho1).mono ?_
  rintro e Z ⟨rfl, ho2, hTZ⟩
  have hZ0 := ho2.at (blk_else H0.out p 2 (.int .i64 1) (by omega)) (fun h => by have := hDl _ h; omega)
  have hZ1 := ho2.at (blk_else H1.out p 2 (.int .i64 1) (by omega)) (fun h => by have := hDl _ h; omega)
  have hZ2 := ho2.at (blk_else H2.out p 2 (.int .i64 1) (by omega)) (fun h => by have := hDl _ h; omega)
  have hZP := ho2.at (blk_set HP.out 2 (.int .i64 1)) hDp
  have hz1 := blk_cell hZ1 0
  have hz2 := blk_cell hZ2 0
  simp only [List.getElem?_toArray, List.getElem?_cons_zero, List.getElem?_cons_succ] at hz1 hz2
  have hfz1 := blk_free hZ1 0
  have hfz2 := blk_free hZ2 0
  have G0 := Lib.hid hZ0
  have G1 := Lib.hid hZ1
  have G2 := Lib.hid hZ2
  have GP := Lib.hid hZP
  have O1 := Lib.hid ho1
  have O2 := Lib.hid ho2
  clear hZ0 hZ1 hZ2 hZP ho1 ho2 hdev H0 H1 H2 HS
  go_wp2_with fail
  have hQ0 := blk_else (blk_else G0.out (w.heap.size + 1) 0 (.int .u32 v) (by omega)) (w.heap.size + 1 + 1) 0 (.int .i64 E) (by omega)
  have hQ1 := blk_else (blk_set G1.out 0 (.int .u32 v)) (w.heap.size + 1 + 1) 0 (.int .i64 E) (by omega)
  have hQ2 := blk_set (blk_else G2.out (w.heap.size + 1) 0 (.int .u32 v) (by omega)) 0 (.int .i64 E)
  have hQP := blk_else (blk_else GP.out (w.heap.size + 1) 0 (.int .u32 v) (by omega)) (w.heap.size + 1 + 1) 0 (.int .i64 E) (by omega)
  have hOY : Off (fun k => k = p ∨ D k) w (((Z.setCell ⟨w.heap.size + 1, 0, none⟩ (.int .u32 v)).setCell ⟨w.heap.size + 1 + 1, 0, none⟩ (.int .i64 E))) := by
    refine ((O1.out.andThen O2.out (U := fun k => k = p ∨ D k) (fun _ _ h => .inl h) (fun _ _ h => .inr h)).andThen (T := (· = w.heap.size + 1)) (Off.ofSetCell _ _ _ rfl) (fun _ _ h => h) (fun i hi h => by omega)).andThen (T := (· = w.heap.size + 1 + 1)) (Off.ofSetCell _ _ _ rfl) (fun _ _ h => h) (fun i hi h => by omega)
  have hTY := hT _ (((Z.setCell ⟨w.heap.size + 1, 0, none⟩ (.int .u32 v)).setCell ⟨w.heap.size + 1 + 1, 0, none⟩ (.int .i64 E))) hTZ ((Off.ofSetCell (S := fun k => k = p ∨ w.heap.size ≤ k) Z ⟨w.heap.size + 1, 0, none⟩ (.int .u32 v) (.inr (by show w.heap.size ≤ w.heap.size + 1; omega))).trans (Off.ofSetCell (S := fun k => k = p ∨ w.heap.size ≤ k) _ ⟨w.heap.size + 1 + 1, 0, none⟩ (.int .i64 E) (.inr (by show w.heap.size ≤ w.heap.size + 1 + 1; omega))))
  generalize ((Z.setCell ⟨w.heap.size + 1, 0, none⟩ (.int .u32 v)).setCell ⟨w.heap.size + 1 + 1, 0, none⟩ (.int .i64 E)) = Y0 at *
  refine leaves_cons (f := 68) (args := #[.pointer (some ⟨w.heap.size, 0, none⟩), .pointer (some ⟨w.heap.size + 1 + 1, 0, none⟩), .pointer (some ⟨w.heap.size + 1, 0, none⟩)]) (by simp) (by simp [go_sem]) ?_
  refine (uDefer w.heap.size (w.heap.size + 1 + 1) (w.heap.size + 1) p E v Y0 ?_ ?_ ?_ ?_ ?_ ?_ hvE).mono ?_
  · simpa using blk_cell hQ0 0
  · simpa using blk_cell hQP 2
  · exact blk_free hQP 2
  · simpa using blk_cell hQ2 0
  · exact ⟨by omega, by omega⟩
  · exact hQ1
  rintro e u' Y ⟨rfl, rfl, hY⟩
  refine reach_ret (Q := fun w' => Off D w w' ∧ T w') rfl rfl ((hY.block _).trans (blk_else hQ1 p 2 _ (by omega))) ((hY.block _).trans (blk_else hQ2 p 2 _ (by omega))) ?_
  have hoY : Off (· = p) Y0 Y := hY.off p 2 _
  refine ⟨(hOY.andThen hoY (U := fun k => k = p ∨ D k) (fun _ _ h => h) (fun _ _ h => .inl h)).restored ?_, hT _ _ hTY (hoY.mono fun _ _ h => .inl h)⟩
  rintro k hk (rfl | hD) hnD
  · have h1 := blk_set hQP 2 (.int .i64 0)
    rw [hY.block, HB.out.cell]
    simpa using h1
  · exact absurd hD hnD
/-- The closure of a store. -/
theorem uClosS (off v E : Int) (xt : TypeId) (xv : Value) (G vb : Nat) (D : Nat → Prop) (T : World → Prop) (w : World)
    (hm : ∀ (n : Nat) (w : World), (method (n + 1) xt xv "Store").run Try.prog w = .ok (G, xv) w) (heg : ∀ args w, (callFunc G args).run Try.prog w = .ok (.enter G args) w)
    (hv : w.cell? ⟨vb, 0, none⟩ = some (.int .u32 v)) (hdev : Calls Try.prog G #[xv, .int .u32 off, .int .u32 v] w fun e w' => e = .returned (.int .i64 E) ∧ Off D w w' ∧ T w') :
    Calls Try.prog 53 #[.iface xt xv, .int .u32 off, .pointer (some ⟨vb, 0, none⟩)] w
      fun e w' => e = .returned (.tuple #[.int .u32 0, .int .i64 E]) ∧ Off D w w' ∧ T w' := by
  go_enter Try.func53, Try.ntmps53
  go_wp2_with fail
  refine hdev.mono ?_
  rintro e w1 ⟨rfl, h1, h2⟩
  go_wp2_with fail
  go_ret2
  exact ⟨rfl, h1, h2⟩
section
variable (p bm : Nat) (rv : Value) (R : List (Int × Int)) (ks : List Int) (pv : Int → Value) (Lp : Int → List Su) (a b s v E : Int) (xt : TypeId) (xv : Value) (F : Nat)
theorem uLoad (D : Nat → Prop) (T : World → Prop) (w : World)
    (a0 : 0 ≤ a) (a1 : a < 4294967296) (h : (a % 4 != 0) = false) (hB : UBus w p bm rv R ks pv Lp) (hvE : E ≠ 0 → v = 0)
    (hm : ∀ (n : Nat) (w : World), (method (n + 1) xt xv "Load").run Try.prog w = .ok (F, xv) w) (heg : ∀ args w, (callFunc F args).run Try.prog w = .ok (.enter F args) w)
    (hfd : findU a (Lp (a / 16777216)) = (.agg #[.int .u32 b, .int .u32 s, .iface xt xv], 0)) (hb0 : 0 ≤ b) (hba : b ≤ a) (hDp : ¬ D p) (hDl : ∀ k, D k → k < w.heap.size)
    (hdev : ∀ w', Off (· = p) w w' → Calls Try.prog F #[xv, .int .u32 (a - b)] w' fun e w'' => e = .returned (.tuple #[.int .u32 v, .int .i64 E]) ∧ Off D w' w'' ∧ T w'')
    (hT : ∀ u u', T u → Off (fun k => k = p ∨ w.heap.size ≤ k) u u' → T u') :
    Calls Try.prog 23 #[.pointer (some ⟨p, 0, none⟩), .int .u32 a] w fun e w' => e = .returned (.tuple #[.int .u32 v, .int .i64 E]) ∧ Off D w w' ∧ T w' := by
  have hmf := mkf
  have HR := Lib.hid (uReach p bm rv R ks pv Lp a b s v E xt xv F D T w a0 a1 h hB hvE hm heg hfd hb0 hba hDp hDl hdev hT)
  clear hB hvE hm heg hfd hDp hDl hdev hT
  go_enter Try.func23, Try.ntmps23
  go_wp2_with fail
  refine HR.out.mono ?_
  rintro e w1 ⟨rfl, ho, hT⟩
  go_wp2_with fail
  go_ret2
  exact ⟨rfl, ho, hT⟩
theorem uStore (D : Nat → Prop) (T : World → Prop) (w : World)
    (a0 : 0 ≤ a) (a1 : a < 4294967296) (h : (a % 4 != 0) = false) (hB : UBus w p bm rv R ks pv Lp)
    (hm : ∀ (n : Nat) (w : World), (method (n + 1) xt xv "Store").run Try.prog w = .ok (F, xv) w) (heg : ∀ args w, (callFunc F args).run Try.prog w = .ok (.enter F args) w)
    (hfd : findU a (Lp (a / 16777216)) = (.agg #[.int .u32 b, .int .u32 s, .iface xt xv], 0)) (hb0 : 0 ≤ b) (hba : b ≤ a) (hDp : ¬ D p) (hDl : ∀ k, D k → k < w.heap.size)
    (hdev : ∀ w', Off (fun k => k = p ∨ w.heap.size ≤ k) w w' → Calls Try.prog F #[xv, .int .u32 (a - b), .int .u32 v] w' fun e w'' => e = .returned (.int .i64 E) ∧ Off D w' w'' ∧ T w'')
    (hT : ∀ u u', T u → Off (fun k => k = p ∨ w.heap.size ≤ k) u u' → T u') :
    Calls Try.prog 25 #[.pointer (some ⟨p, 0, none⟩), .int .u32 a, .int .u32 v] w fun e w' => e = .returned (.int .i64 E) ∧ Off D w w' ∧ T w' := by
  have hmf := mkf
  have hpl := hB.ltp
  have HR := Lib.hid (uReachS p bm rv R ks pv Lp a b s 0 E xt xv w.heap.size D T (w.alloc (.cells #[.int .u32 v] 26)) a0 a1 h (hB.ofBelow (trA (tr0 w) _)) (fun _ => rfl) hfd hb0 hba hDp (fun k hk => by have := hDl k hk; simp; omega)
    (fun w' ho => uClosS (a - b) v E xt xv F w.heap.size D T w' hm heg (by rw [ho.cell (by simp) (by show ¬ w.heap.size = p; omega)]; exact blk_cell (blk_new w (.cells #[.int .u32 v] 26)) 0)
      (hdev w' ((Off.ofAlloc w _).trans (ho.mono fun _ _ h => .inl h))))
    (fun u u' hu ho => hT u u' hu (ho.mono fun k _ h => h.imp id fun h => by simp at h; omega)))
  clear hB hm heg hfd hDp hDl hdev hT
  go_enter Try.func25, Try.ntmps25
  go_wp2_with fail
  refine HR.out.mono ?_
  rintro e w1 ⟨rfl, ho, hT⟩
  go_wp2_with fail
  go_ret
  exact ⟨rfl, (Off.ofAlloc w _).trans ho, hT⟩
end
end Go.Proofs.Ytafegmmcgghgaaa.B
