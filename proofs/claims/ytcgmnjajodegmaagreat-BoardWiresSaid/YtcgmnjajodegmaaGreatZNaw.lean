/- Several texts in one: Package bus: reach, Load, Store, of any device. What each function of package reg that takes registers returns, in the plain numbers of RPlain. A file of registers: Store. Package bus: reach, at a store. -/
import Derived.Test.YtcgmnjajodegmaaGreatZNaa
import Derived.Test.YtcgmnjajodegmaaGreatZNae
import Derived.Test.YtcgmnjajodegmaaGreatZNat
import Derived.Test.YtcgmnjajodegmaaGreatZNav
namespace Go.Proofs.YtcgmnjajodegmaaGreat.B
set_option linter.unusedVariables false
set_option linter.unusedSimpArgs false
set_option maxRecDepth 100000
open Go.ChangeShapes Go.WideShapes Go.RowKit Go.Sort
/-- Two worlds with the same blocks. -/
structure Same (u w : World) : Prop where
  os : w.os = u.os
  tape : w.tape = u.tape
  output : w.output = u.output
  size : w.heap.size = u.heap.size
  block : ∀ k : Nat, w.heap[k]? = u.heap[k]?
theorem Same.refl (w : World) : Same w w := ⟨rfl, rfl, rfl, rfl, fun _ => rfl⟩
theorem Same.off {u w : World} (p j : Nat) (v : Value) (h : Same (u.setCell ⟨p, j, none⟩ v) w) : Off (· = p) u w := by
  have o := off_set u p j v
  exact ⟨h.os.trans o.os, h.tape.trans o.tape, h.output.trans o.output, by rw [h.size]; exact o.size, fun k hk hs => (h.block k).trans (o.block k hk hs)⟩
/-- A store of what is there. -/
theorem same_set {w : World} {b : Nat} {x : Value} {t : TypeId} (h : w.heap[b]? = some (.cells #[x] t (0, 0))) : Same w (w.setCell ⟨b, 0, none⟩ x) := by
  have hb := Below.setCell (Below.refl b w) (p := ⟨b, 0, none⟩) (Nat.le_refl _) x
  refine ⟨hb.os, hb.tape, hb.output, by simp, fun k => ?_⟩
  by_cases e : k = b
  · subst e; rw [blk_set h, h]; simp
  · exact Below.heap_setCell w ⟨b, 0, none⟩ x k e
theorem Same.trans {a b c : World} (h : Same a b) (k : Same b c) : Same a c := ⟨k.os.trans h.os, k.tape.trans h.tape, k.output.trans h.output, k.size.trans h.size, fun i => (k.block i).trans (h.block i)⟩
/-- The deferred closure. -/
theorem uDefer (pb pe pv p : Nat) (E v : Int) (w : World) (h0 : w.cell? ⟨pb, 0, none⟩ = some (.pointer (some ⟨p, 0, none⟩))) (h1 : w.cell? ⟨p, 2, none⟩ = some (.int .i64 1)) (h2 : w.frozen? ⟨p, 2, none⟩ = false)
    (h3 : w.cell? ⟨pe, 0, none⟩ = some (.int .i64 E)) (hne : pe ≠ p ∧ pv ≠ p) (h5 : w.heap[pv]? = some (.cells #[.int .u32 v] 22 (0, 0))) (hv : E ≠ 0 → v = 0) :
    CallsD Tryz.prog 178 #[.pointer (some ⟨pb, 0, none⟩), .pointer (some ⟨pe, 0, none⟩), .pointer (some ⟨pv, 0, none⟩)] .returning w
      fun e u' w' => e = .returned (.tuple #[]) ∧ u' = .returning ∧ Same (w.setCell ⟨p, 2, none⟩ (.int .i64 0)) w' := by
  by_cases hE : E = 0
  · subst hE
    exact (zDefer0 pb pe pv p w h0 h1 h2 h3 hne.1).mono fun e u' w' g => ⟨g.1, g.2.1, g.2.2 ▸ Same.refl _⟩
  · obtain rfl : v = 0 := hv hE
    refine callsD_of_wpS Tryz.func178 rfl fun c₀ cs hu => ?_
    have h4 : (w.setCell ⟨p, 2, none⟩ (.int .i64 0)).cell? ⟨pe, 0, none⟩ = some (.int .i64 E) := by
      rw [World.cell?_of_block (a := ⟨pe, 0, none⟩) (Below.heap_setCell w ⟨p, 2, none⟩ (.int .i64 0) pe hne.1)]; exact h3
    have h6 : (w.setCell ⟨p, 2, none⟩ (.int .i64 0)).heap[pv]? = some (.cells #[.int .u32 0] 22 (0, 0)) := blk_else h5 p 2 _ hne.2
    have h7 := blk_cell h6 0
    simp only [List.getElem?_toArray, List.getElem?_cons_zero] at h7
    have h8 := blk_free h6 0
    have HS := Lib.hid (same_set h6)
    have hwr : IntKind.i64.wrap 0 = 0 := by decide
    have hE1 : (E == 0) = false := by simpa using hE
    have hE2 : (E != 0) = true := by simpa using hE
    clear h5 h6
    apply wpS_seq
    apply wpS_region
    simp [wpOpsS, go_sem, recoverD, hu, Tryz.ntmps178, Exit.thenS, h0, h1, h2, hwr]
    apply wpS_seq
    apply wpS_seq
    apply wpS_region
    simp [wpOpsS, go_sem, recoverD, hu, Exit.thenS]
    refine wpS_cond (t := false) (by simp [Act.eval, Array.replicate]) ?_
    simp only [Bool.false_eq_true, if_false]
    refine wpS_of_wp (wp_skip ?_)
    simp only [Exit.thenS]
    apply wpS_seq
    apply wpS_region
    simp [wpOpsS, go_sem, Exit.thenS, h4, hE, hE1, hE2]
    refine wpS_cond (t := true) (by simp [Act.eval, Array.replicate]) ?_
    simp only [if_true]
    apply wpS_region
    simp [wpOpsS, go_sem, Exit.thenS, h7, h8]
    cases c₀
    simp_all [bodyPostS, results, Tryz.results178]
    exact HS.out
set_option maxRecDepth 100000 in
/-- An access that its device answers without an error: what the device is asked turns blocks of S alone. -/
theorem uReach (p bm : Nat) (rv : Value) (R : List (Int × Int)) (ks : List Int) (pv : Int → Value) (Lp : Int → List Su) (a b s v E : Int) (xt : TypeId) (xv : Value) (F : Nat) (D : Nat → Prop) (T : World → Prop) (w : World)
    (a0 : 0 ≤ a) (a1 : a < 4294967296) (h : (a % 4 != 0) = false) (hB : UBus w p bm rv R ks pv Lp) (hvE : E ≠ 0 → v = 0)
    (hm : ∀ (n : Nat) (w : World), (method (n + 1) xt xv "Load").run Tryz.prog w = .ok (F, xv) w) (heg : ∀ args w, (callFunc F args).run Tryz.prog w = .ok (.enter F args) w) (hfd : findU a (Lp (a / 16777216)) = (.agg #[.int .u32 b, .int .u32 s, .iface xt xv], 0)) (hb0 : 0 ≤ b) (hba : b ≤ a) (hDp : ¬ D p) (hDl : ∀ k, D k → k < w.heap.size)
    (hdev : ∀ w', Off (· = p) w w' → Calls Tryz.prog F #[xv, .int .u32 (a - b)] w' fun e w'' => e = .returned (.tuple #[.int .u32 v, .int .i64 E]) ∧ Off D w' w'' ∧ T w'')
    (hT : ∀ u u', T u → Off (fun k => k = p ∨ w.heap.size ≤ k) u u' → T u') :
    Calls Tryz.prog 136 #[.pointer (some ⟨p, 0, none⟩),   .int .u32 a, .func (.methodOf 138 "Load") #[] #[]] w fun e w' => e = .returned (.tuple #[.int .u32 v, .int .i64 E]) ∧ Off D w w' ∧ T w' := by
  have hmf : ∀ (fn : Fn) (first cap : Array Value) (w : World), (Instr.makeFunc fn first cap).run Tryz.prog w = .ok (.func fn first cap) w := fun _ _ _ _ => rfl
  go_enter_defers Tryz.func136, Tryz.ntmps136
  go_wp2_with fail
  refine (uFind a _ _ p bm rv R ks pv Lp _ a0 a1 h ?_ hfd).mono ?_
  · exact hB.ofBelow (trA (trA (trA (tr0 w) _) _) _)
  rintro e w1 ⟨rfl, hb1⟩
  have hP := blk_below hb1 ((b3_o w _ _ _ hB.ltp).trans hB.cell) (by rw [b3_s]; have := hB.ltp; omega)
  have hX0 := blk_below hb1 (b3_0 w _ _ _) (by rw [b3_s]; omega)
  have hX1 := blk_below hb1 (b3_1 w _ _ _) (by rw [b3_s]; omega)
  have hX2 := blk_below hb1 (b3_2 w _ _ _) (by rw [b3_s]; omega)
  have hx2 := blk_cell hX2 0
  simp only [List.getElem?_toArray, List.getElem?_cons_zero, List.getElem?_cons_succ] at hx2
  have hf2 := blk_free hX2 0
  have hl0 := lt_of_block hX0
  have hl1 := lt_of_block hX1
  have hl2 := lt_of_block hX2
  have hlp0 := hB.ltp
  have hlp := lt_of_block hP
  have hbw : Below w.heap.size w w1 := tr (trA (trA (trA (tr0 w) _) _) _) hb1
  have HX0 := Lib.hid hX0
  have HX1 := Lib.hid hX1
  have HX2 := Lib.hid hX2
  have HP := Lib.hid hP
  have HB := Lib.hid hB
  clear hX0 hX1 hX2 hb1 hP hB
  go_upto_region 2 with (fail)
  have hY0 := (blk_old (w1.setCell ⟨w.heap.size + 1 + 1, 0, none⟩ (.int .i64 0)) (.cells #[.int .u32 b, .int .u32 s, .iface xt xv] 227) (by simpa using hl0)).trans (blk_else HX0.out (w.heap.size + 1 + 1) 0 (.int .i64 0) (by omega))
  have hY1 := (blk_old (w1.setCell ⟨w.heap.size + 1 + 1, 0, none⟩ (.int .i64 0)) (.cells #[.int .u32 b, .int .u32 s, .iface xt xv] 227) (by simpa using hl1)).trans (blk_else HX1.out (w.heap.size + 1 + 1) 0 (.int .i64 0) (by omega))
  have hY2 := (blk_old (w1.setCell ⟨w.heap.size + 1 + 1, 0, none⟩ (.int .i64 0)) (.cells #[.int .u32 b, .int .u32 s, .iface xt xv] 227) (by simpa using hl2)).trans (blk_set HX2.out 0 (.int .i64 0))
  have hYP := (blk_old (w1.setCell ⟨w.heap.size + 1 + 1, 0, none⟩ (.int .i64 0)) (.cells #[.int .u32 b, .int .u32 s, .iface xt xv] 227) (by simpa using hlp)).trans (blk_else HP.out (w.heap.size + 1 + 1) 0 (.int .i64 0) (by omega))
  have hYS := blk_new (w1.setCell ⟨w.heap.size + 1 + 1, 0, none⟩ (.int .i64 0)) (.cells #[.int .u32 b, .int .u32 s, .iface xt xv] 227)
  have hbW : Below w.heap.size w ((w1.setCell ⟨w.heap.size + 1 + 1, 0, none⟩ (.int .i64 0)).alloc (.cells #[.int .u32 b, .int .u32 s, .iface xt xv] 227)) := trA (hbw.setCell (p := ⟨w.heap.size + 1 + 1, 0, none⟩) (by show w.heap.size ≤ w.heap.size + 1 + 1; omega) _) _
  generalize ((w1.setCell ⟨w.heap.size + 1 + 1, 0, none⟩ (.int .i64 0)).alloc (.cells #[.int .u32 b, .int .u32 s, .iface xt xv] 227)) = W at *
  have hY2 : W.heap[w.heap.size + 2]? = some (.cells #[.int .i64 0] 27 (0, 0)) := by simpa using hY2
  have hYS : W.heap[w1.heap.size]? = some (.cells #[.int .u32 b, .int .u32 s, .iface xt xv] 227 (0, 0)) := by simpa using hYS
  clear hx2 hf2 HX0 HX1 HX2 HP hbw
  have hx0 := blk_cell hY0 0
  have hx2 := blk_cell hY2 0
  have hp2 := blk_cell hYP 2
  have hs0 := blk_cell hYS 0
  have hs2 := blk_cell hYS 2
  simp only [List.getElem?_toArray, List.getElem?_cons_zero, List.getElem?_cons_succ] at hx0 hx2 hp2 hs0 hs2
  have hfp := blk_free hYP 2
  have hlq := lt_of_block hYS
  have hn1 : (p == w.heap.size) = false := by simp; omega
  have hn2 : (p == w1.heap.size) = false := by simp; omega
  have H0 := Lib.hid hY0
  have H1 := Lib.hid hY1
  have H2 := Lib.hid hY2
  have HP := Lib.hid hYP
  have HS := Lib.hid hYS
  clear hY0 hY1 hY2 hYP hYS
  go_upto_region 8 with (fail)
  clear hx0 hx2 hp2 hfp hn1 hn2
  go_wp2_with fail
  have ho1 : Off (· = p) w (W.setCell ⟨p, 2, none⟩ (.int .i64 1)) := (Off.ofBelow hbW).trans (Off.ofSetCell W ⟨p, 2, none⟩ _ rfl)
  refine (hdev _ ho1).mono ?_
  rintro e Z ⟨rfl, ho2, hTZ⟩
  have hZ0 := ho2.at (blk_else H0.out p 2 (.int .i64 1) (by omega)) (fun h => by have := hDl _ h; omega)
  have hZ1 := ho2.at (blk_else H1.out p 2 (.int .i64 1) (by omega)) (fun h => by have := hDl _ h; omega)
  have hZ2 := ho2.at (blk_else H2.out p 2 (.int .i64 1) (by omega)) (fun h => by have := hDl _ h; omega)
  have hZP := ho2.at (blk_set HP.out 2 (.int .i64 1)) hDp
  have hz1 := blk_cell hZ1 0
  have hz2 := blk_cell hZ2 0
  simp only [List.getElem?_toArray, List.getElem?_cons_zero, List.getElem?_cons_succ] at hz1 hz2
  have hfz1 := blk_free hZ1 0
  have hfz2 := blk_free hZ2 0
  have G0 := Lib.hid hZ0
  have G1 := Lib.hid hZ1
  have G2 := Lib.hid hZ2
  have GP := Lib.hid hZP
  have O1 := Lib.hid ho1
  have O2 := Lib.hid ho2
  clear hZ0 hZ1 hZ2 hZP ho1 ho2 hdev H0 H1 H2 HS
  go_wp2_with fail
  have hQ0 := blk_else (blk_else G0.out (w.heap.size + 1) 0 (.int .u32 v) (by omega)) (w.heap.size + 1 + 1) 0 (.int .i64 E) (by omega)
  have hQ1 := blk_else (blk_set G1.out 0 (.int .u32 v)) (w.heap.size + 1 + 1) 0 (.int .i64 E) (by omega)
  have hQ2 := blk_set (blk_else G2.out (w.heap.size + 1) 0 (.int .u32 v) (by omega)) 0 (.int .i64 E)
  have hQP := blk_else (blk_else GP.out (w.heap.size + 1) 0 (.int .u32 v) (by omega)) (w.heap.size + 1 + 1) 0 (.int .i64 E) (by omega)
  have hOY : Off (fun k => k = p ∨ D k) w (((Z.setCell ⟨w.heap.size + 1, 0, none⟩ (.int .u32 v)).setCell ⟨w.heap.size + 1 + 1, 0, none⟩ (.int .i64 E))) := by
    refine ((O1.out.andThen O2.out (U := fun k => k = p ∨ D k) (fun _ _ h => .inl h) (fun _ _ h => .inr h)).andThen (T := (· = w.heap.size + 1)) (Off.ofSetCell _ _ _ rfl) (fun _ _ h => h) (fun i hi h => by omega)).andThen (T := (· = w.heap.size + 1 + 1)) (Off.ofSetCell _ _ _ rfl) (fun _ _ h => h) (fun i hi h => by omega)
  have hTY := hT _ (((Z.setCell ⟨w.heap.size + 1, 0, none⟩ (.int .u32 v)).setCell ⟨w.heap.size + 1 + 1, 0, none⟩ (.int .i64 E))) hTZ ((Off.ofSetCell (S := fun k => k = p ∨ w.heap.size ≤ k) Z ⟨w.heap.size + 1, 0, none⟩ (.int .u32 v) (.inr (by show w.heap.size ≤ w.heap.size + 1; omega))).trans (Off.ofSetCell (S := fun k => k = p ∨ w.heap.size ≤ k) _ ⟨w.heap.size + 1 + 1, 0, none⟩ (.int .i64 E) (.inr (by show w.heap.size ≤ w.heap.size + 1 + 1; omega))))
  generalize ((Z.setCell ⟨w.heap.size + 1, 0, none⟩ (.int .u32 v)).setCell ⟨w.heap.size + 1 + 1, 0, none⟩ (.int .i64 E)) = Y0 at *
  refine leaves_cons (f := 178) (args := #[.pointer (some ⟨w.heap.size, 0, none⟩), .pointer (some ⟨w.heap.size + 1 + 1, 0, none⟩), .pointer (some ⟨w.heap.size + 1, 0, none⟩)]) (by simp) (by simp [go_sem]) ?_
  refine (uDefer w.heap.size (w.heap.size + 1 + 1) (w.heap.size + 1) p E v Y0 ?_ ?_ ?_ ?_ ?_ ?_ hvE).mono ?_
  · simpa using blk_cell hQ0 0
  · simpa using blk_cell hQP 2
  · exact blk_free hQP 2
  · simpa using blk_cell hQ2 0
  · exact ⟨by omega, by omega⟩
  · exact hQ1
  rintro e u' Y ⟨rfl, rfl, hY⟩
  refine reach_ret (Q := fun w' => Off D w w' ∧ T w') rfl rfl ((hY.block _).trans (blk_else hQ1 p 2 _ (by omega))) ((hY.block _).trans (blk_else hQ2 p 2 _ (by omega))) ?_
  have hoY : Off (· = p) Y0 Y := hY.off p 2 _
  refine ⟨(hOY.andThen hoY (U := fun k => k = p ∨ D k) (fun _ _ h => h) (fun _ _ h => .inl h)).restored ?_, hT _ _ hTY (hoY.mono fun _ _ h => .inl h)⟩
  rintro k hk (rfl | hD) hnD
  · have h1 := blk_set hQP 2 (.int .i64 0)
    rw [hY.block, HB.out.cell]
    simpa using h1
  · exact absurd hD hnD
end Go.Proofs.YtcgmnjajodegmaaGreat.B
namespace Go.Proofs.YtcgmnjajodegmaaGreat.B
set_option linter.unusedVariables false
set_option linter.unusedSimpArgs false
open Go.ChangeShapes Go.WideShapes Go.RowKit
/-- Read-only. -/
def only (r c : Int) : Bool := (r == 0) && (c == 0)
end Go.Proofs.YtcgmnjajodegmaaGreat.B
namespace Go.Proofs.YtcgmnjajodegmaaGreat.B
set_option linter.unusedVariables false
set_option linter.unusedSimpArgs false
open Go.ChangeShapes Go.WideShapes Go.RowKit Go.Sort
/-- A register, written. -/
def Rg.put (x : Rg) (v : Int) : Rg := ⟨stV x.v x.r x.c v, x.s, x.r, x.c⟩
theorem Rg.put_wf {x : Rg} (h : x.wf) (v : Int) : (x.put v).wf := ⟨stV_bounds _ _ _ _, h.2.1, h.2.2.1, h.2.2.2⟩
end Go.Proofs.YtcgmnjajodegmaaGreat.B
namespace Go.Proofs.YtcgmnjajodegmaaGreat.B
set_option linter.unusedVariables false
set_option linter.unusedSimpArgs false
open Go.ChangeShapes Go.WideShapes Go.RowKit Go.Sort
end Go.Proofs.YtcgmnjajodegmaaGreat.B
