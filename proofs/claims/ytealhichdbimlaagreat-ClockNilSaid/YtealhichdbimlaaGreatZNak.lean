/- A part of the proof of a law of layer 12: ak. -/
import Derived.Test.YtealhichdbimlaaGreatZNaj
import Derived.Defers
import Derived.Recover
import Derived.Shelf.SlMaps.Clone
set_option linter.unusedVariables false
set_option linter.unusedSimpArgs false
set_option maxHeartbeats 12800000
set_option maxRecDepth 100000
namespace Go.Proofs.YtealhichdbimlaaGreat.B
open Go.Proofs.Tryz
open List renaming getElem?_toArray -> y0q, getElem?_cons_zero -> y1q, getElem?_cons_succ -> y2q
open Go.ChangeShapes Go.WideShapes Go.RowKit Go.Sort Go.MapKept
theorem wT (pb pe pv p : Nat) (w : World) (h0 : w.cell? ⟨pb, 0, none⟩ = some (.pointer (some ⟨p, 0, none⟩))) (h1 : w.cell? ⟨p, 2, none⟩ = some (.int .i64 1)) (h2 : w.frozen? ⟨p, 2, none⟩ = false)
 (h3 : w.cell? ⟨pe, 0, none⟩ = some (.int .i64 0)) (hne : pe ≠ p) :
 CallsD prog 172 #[.pointer (some ⟨pb, 0, none⟩), .pointer (some ⟨pe, 0, none⟩), .pointer (some ⟨pv, 0, none⟩)] .returning w
  fun e u' w' => e = .returned (.tuple #[]) /\ u' = .returning /\ w' = w.setCell ⟨p, 2, none⟩ (.int .i64 0) := by
 refine callsD_of_wpS func172 rfl fun c₀ cs hu => ?_
 have h4 : (w.setCell ⟨p, 2, none⟩ (.int .i64 0)).cell? ⟨pe, 0, none⟩ = some (.int .i64 0) := by
  rw [World.cell?_of_block (a := ⟨pe, 0, none⟩) (Below.heap_setCell w ⟨p, 2, none⟩ (.int .i64 0) pe hne)]; exact h3
 have hwr : IntKind.i64.wrap 0 = 0 := by decide
 apply wpS_seq
 apply wpS_region
 simp [wpOpsS, go_sem, recoverD, hu, ntmps172, Exit.thenS, h0, h1, h2, hwr]
 apply wpS_seq
 apply wpS_seq
 apply wpS_region
 simp [wpOpsS, go_sem, recoverD, hu, Exit.thenS]
 refine wpS_cond (t := false) (by simp [Act.eval, Array.replicate]) ?_
 simp only [Bool.false_eq_true, if_false]
 refine wpS_of_wp (wp_skip ?_)
 simp only [Exit.thenS]
 apply wpS_seq
 apply wpS_region
 simp [wpOpsS, go_sem, Exit.thenS, h4]
 refine wpS_cond (t := false) (by simp [Act.eval, Array.replicate]) ?_
 simp only [Bool.false_eq_true, if_false]
 refine wpS_of_wp (wp_skip ?_)
 cases c₀
 simp_all [bodyPostS, results, results172]
theorem jQ {w Y : World} {tmps : Array Value} {v e : Int} (h6 : tmps[6]? = some (.pointer (some ⟨w.heap.size + 1, 0, none⟩))) (h7 : tmps[7]? = some (.pointer (some ⟨w.heap.size + 1 + 1, 0, none⟩)))
 (hY1 : Y.heap[w.heap.size + 1]? = some (.cells #[.int .u32 v] 27 (0, 0))) (hY2 : Y.heap[w.heap.size + 2]? = some (.cells #[.int .i64 e] 51 (0, 0))) {Q : World -> Prop} (hQ : Q Y) :
 bodyPostD prog Tryz.f101 (fun e' w' => e' = .returned (.tuple #[.int .u32 v, .int .i64 e]) /\ Q w') Exit.ret { tmps := tmps, defers := [] } Y := by
 have hy1 := aA hY1 0
 have hy2 := aA hY2 0
 simp at hy1 hy2
 simp [bodyPostD, Leaves, settle, results, results101, go_sem, h6, h7, hy1, hy2]
 exact hQ
theorem pX (pa : Option Addr) (a E : Int) (F : Value) (w : World) (hE : (E != 0) = true)
 (hf : ∀ w', Below w.heap.size w w' -> Calls prog 171 #[.pointer pa, .int .u32 a] w' fun e w'' => e = .returned (.tuple #[aZ, .int .i64 E]) /\ Below w'.heap.size w' w'') :
 Calls prog 101 #[.pointer pa, .int .u32 a, F] w fun e w' => e = .returned (.tuple #[.int .u32 0, .int .i64 E]) /\ Below w.heap.size w w' := by
 have hmf : ∀ (fn : Fn) (first cap : Array Value) (w : World), (Instr.makeFunc fn first cap).run prog w = .ok (.func fn first cap) w := fun _ _ _ _ => rfl
 unfold aZ at hf
 go_enter_defers func101, ntmps101
 go_wp2_with fail
 refine (hf _ (aO (aO (aO (aV w) _) _) _)).mono ?_
 rintro e w1 ⟨rfl, hb1⟩
 have hX0 := aB hb1 (aAm w _ _ _) (by rw [mK]; omega)
 have hX1 := aB hb1 (aAn w _ _ _) (by rw [mK]; omega)
 have hX2 := aB hb1 (aAo w _ _ _) (by rw [mK]; omega)
 have hx0 := aA hX0 0
 have hx1 := aA hX1 0
 have hx2 := aA hX2 0
 simp only [y0q, y1q, y2q] at hx0 hx1 hx2
 have hf1 := aG hX1 0
 have hf2 := aG hX2 0
 have hl1 := lt_of_block hX1
 have hl2 := lt_of_block hX2
 have hbw : Below w.heap.size w w1 := tr (aO (aO (aO (aV w) _) _) _) hb1
 have hn0 : (w.heap.size + 1 == w1.heap.size) = false := by simp; omega
 have HX0 := Hd hX0
 have HX1 := Hd hX1
 have HX2 := Hd hX2
 clear hX0 hX1 hX2 hb1 hf
 go_wp2_with fail
 have hY1 := (aH (w1.setCell ⟨w.heap.size + 1 + 1, 0, none⟩ (.int .i64 E)) (.cells #[.int .u32 0, .int .u32 0, .nilIface] 247) (by simpa using hl1)).trans (aJ HX1.out (w.heap.size + 1 + 1) 0 (.int .i64 E) (by omega))
 have hY2 := (aH (w1.setCell ⟨w.heap.size + 1 + 1, 0, none⟩ (.int .i64 E)) (.cells #[.int .u32 0, .int .u32 0, .nilIface] 247) (by simpa using hl2)).trans (aK HX2.out 0 (.int .i64 E))
 have hbW : Below w.heap.size w ((w1.setCell ⟨w.heap.size + 1 + 1, 0, none⟩ (.int .i64 E)).alloc (.cells #[.int .u32 0, .int .u32 0, .nilIface] 247)) := aO (hbw.setCell (by simp; omega) _) _
 generalize ((w1.setCell ⟨w.heap.size + 1 + 1, 0, none⟩ (.int .i64 E)).alloc (.cells #[.int .u32 0, .int .u32 0, .nilIface] 247)) = W at *
 clear hx0 hx1 hx2 hf1 hf2 HX0 HX1 HX2
 have hy1 := aA hY1 0
 have hy2 := aA hY2 0
 simp at hy1 hy2
 have hf1 := aG hY1 0
 have hf2 := aG hY2 0
 have HY1 := Hd hY1
 have HY2 := Hd hY2
 clear hY1 hY2
 go_region
 go_wp2_with fail
 exact jQ (Y := World.drew _) rfl rfl (aJ (aK HY1.out 0 _) _ _ _ (by omega)) (aK (aJ HY2.out _ _ _ (by omega)) 0 _) (qB ((hbW.setCell (p := ⟨w.heap.size + 1, 0, none⟩) (Nat.le_add_right _ _) _).setCell (p := ⟨w.heap.size + 1 + 1, 0, none⟩) (by show w.heap.size <= w.heap.size + 1 + 1; omega) _))
structure gN (u w : World) : Prop where
 os : w.os = u.os
 tape : w.tape = u.tape
 output : w.output = u.output
 size : w.heap.size = u.heap.size
 block : ∀ k : Nat, w.heap[k]? = u.heap[k]?
theorem gN.refl (w : World) : gN w w := ⟨rfl, rfl, rfl, rfl, fun _ => rfl⟩
theorem gN.off {u w : World} (p j : Nat) (v : Value) (h : gN (u.setCell ⟨p, j, none⟩ v) w) : aE (· = p) u w := by
 have o := bE u p j v
 exact ⟨h.os.trans o.os, h.tape.trans o.tape, h.output.trans o.output, by rw [h.size]; exact o.size, fun k hk hs => (h.block k).trans (o.block k hk hs)⟩
theorem tY {w : World} {b : Nat} {x : Value} {t : TypeId} (h : w.heap[b]? = some (.cells #[x] t (0, 0))) : gN w (w.setCell ⟨b, 0, none⟩ x) := by
 have hb := Below.setCell (Below.refl b w) (p := ⟨b, 0, none⟩) (Nat.le_refl _) x
 refine ⟨hb.os, hb.tape, hb.output, by simp, fun k => ?_⟩
 by_cases e : k = b
 . subst e; rw [aK h, h]; simp
 . exact Below.heap_setCell w ⟨b, 0, none⟩ x k e
theorem gN.trans {a b c : World} (h : gN a b) (k : gN b c) : gN a c := ⟨k.os.trans h.os, k.tape.trans h.tape, k.output.trans h.output, k.size.trans h.size, fun i => (k.block i).trans (h.block i)⟩
theorem aAR (pb pe pv p : Nat) (E v : Int) (w : World) (h0 : w.cell? ⟨pb, 0, none⟩ = some (.pointer (some ⟨p, 0, none⟩))) (h1 : w.cell? ⟨p, 2, none⟩ = some (.int .i64 1)) (h2 : w.frozen? ⟨p, 2, none⟩ = false)
 (h3 : w.cell? ⟨pe, 0, none⟩ = some (.int .i64 E)) (hne : pe ≠ p /\ pv ≠ p) (h5 : w.heap[pv]? = some (.cells #[.int .u32 v] 27 (0, 0))) (hv : E ≠ 0 -> v = 0) :
 CallsD prog 172 #[.pointer (some ⟨pb, 0, none⟩), .pointer (some ⟨pe, 0, none⟩), .pointer (some ⟨pv, 0, none⟩)] .returning w
  fun e u' w' => e = .returned (.tuple #[]) /\ u' = .returning /\ gN (w.setCell ⟨p, 2, none⟩ (.int .i64 0)) w' := by
 by_cases hE : E = 0
 . subst hE
   exact (wT pb pe pv p w h0 h1 h2 h3 hne.1).mono fun e u' w' g => ⟨g.1, g.2.1, g.2.2 ▸ gN.refl _⟩
 . obtain rfl : v = 0 := hv hE
   refine callsD_of_wpS func172 rfl fun c₀ cs hu => ?_
   have h4 : (w.setCell ⟨p, 2, none⟩ (.int .i64 0)).cell? ⟨pe, 0, none⟩ = some (.int .i64 E) := by
    rw [World.cell?_of_block (a := ⟨pe, 0, none⟩) (Below.heap_setCell w ⟨p, 2, none⟩ (.int .i64 0) pe hne.1)]; exact h3
   have h6 : (w.setCell ⟨p, 2, none⟩ (.int .i64 0)).heap[pv]? = some (.cells #[.int .u32 0] 27 (0, 0)) := aJ h5 p 2 _ hne.2
   have h7 := aA h6 0
   simp only [y0q, y1q] at h7
   have h8 := aG h6 0
   have HS := Hd (tY h6)
   have hwr : IntKind.i64.wrap 0 = 0 := by decide
   have hE1 : (E == 0) = false := by simpa using hE
   have hE2 : (E != 0) = true := by simpa using hE
   clear h5 h6
   apply wpS_seq
   apply wpS_region
   simp [wpOpsS, go_sem, recoverD, hu, ntmps172, Exit.thenS, h0, h1, h2, hwr]
   apply wpS_seq
   apply wpS_seq
   apply wpS_region
   simp [wpOpsS, go_sem, recoverD, hu, Exit.thenS]
   refine wpS_cond (t := false) (by simp [Act.eval, Array.replicate]) ?_
   simp only [Bool.false_eq_true, if_false]
   refine wpS_of_wp (wp_skip ?_)
   simp only [Exit.thenS]
   apply wpS_seq
   apply wpS_region
   simp [wpOpsS, go_sem, Exit.thenS, h4, hE, hE1, hE2]
   refine wpS_cond (t := true) (by simp [Act.eval, Array.replicate]) ?_
   simp only [if_true]
   apply wpS_region
   simp [wpOpsS, go_sem, Exit.thenS, h7, h8]
   cases c₀
   simp_all [bodyPostS, results, results172]
   exact HS.out
theorem aAS (p bm : Nat) (rv : Value) (R : List (Int × Int)) (ks : List Int) (pv : Int -> Value) (Lp : Int -> List Su) (a b s v E : Int) (xt : TypeId) (xv : Value) (F : Nat) (D : Nat -> Prop) (T : World -> Prop) (w : World)
 (a0 : 0 <= a) (a1 : a < 4294967296) (h : (a % 4 != 0) = false) (hB : bM w p bm rv R ks pv Lp) (hvE : E ≠ 0 -> v = 0)
 (hm : ∀ (n : Nat) (w : World), (method (n + 1) xt xv "Load").run prog w = .ok (F, xv) w) (heg : ∀ args w, (callFunc F args).run prog w = .ok (.enter F args) w) (hfd : bQ a (Lp (a / 16777216)) = (.agg #[.int .u32 b, .int .u32 s, .iface xt xv], 0)) (hb0 : 0 <= b) (hba : b <= a) (hDp : ¬ D p) (hDl : ∀ k, D k -> k < w.heap.size)
 (hdev : ∀ w', aE (· = p) w w' -> Calls prog F #[xv, .int .u32 (a - b)] w' fun e w'' => e = .returned (.tuple #[.int .u32 v, .int .i64 E]) /\ aE D w' w'' /\ T w'')
 (hT : ∀ u u', T u -> aE (fun k => k = p \/ w.heap.size <= k) u u' -> T u') :
 Calls prog 101 #[.pointer (some ⟨p, 0, none⟩),   .int .u32 a, .func (.methodOf 171 "Load") #[] #[]] w fun e w' => e = .returned (.tuple #[.int .u32 v, .int .i64 E]) /\ aE D w w' /\ T w' := by
 have hmf : ∀ (fn : Fn) (first cap : Array Value) (w : World), (Instr.makeFunc fn first cap).run prog w = .ok (.func fn first cap) w := fun _ _ _ _ => rfl
 go_enter_defers func101, ntmps101
 go_wp2_with fail
 refine (xI a _ _ p bm rv R ks pv Lp _ a0 a1 h ?_ hfd).mono ?_
 . exact hB.ofBelow (aO (aO (aO (aV w) _) _) _)
 rintro e w1 ⟨rfl, hb1⟩
 have hP := aB hb1 ((aB6 w _ _ _ hB.ltp).trans hB.cell) (by rw [mK]; have := hB.ltp; omega)
 have hX0 := aB hb1 (aAm w _ _ _) (by rw [mK]; omega)
 have hX1 := aB hb1 (aAn w _ _ _) (by rw [mK]; omega)
 have hX2 := aB hb1 (aAo w _ _ _) (by rw [mK]; omega)
 have hx2 := aA hX2 0
 simp only [y0q, y1q, y2q] at hx2
 have hf2 := aG hX2 0
 have hl0 := lt_of_block hX0
 have hl1 := lt_of_block hX1
 have hl2 := lt_of_block hX2
 have hlp0 := hB.ltp
 have hlp := lt_of_block hP
 have hbw : Below w.heap.size w w1 := tr (aO (aO (aO (aV w) _) _) _) hb1
 have HX0 := Hd hX0
 have HX1 := Hd hX1
 have HX2 := Hd hX2
 have HP := Hd hP
 have HB := Hd hB
 clear hX0 hX1 hX2 hb1 hP hB
 go_upto_region 2 with (fail)
 have hY0 := (aH (w1.setCell ⟨w.heap.size + 1 + 1, 0, none⟩ (.int .i64 0)) (.cells #[.int .u32 b, .int .u32 s, .iface xt xv] 247) (by simpa using hl0)).trans (aJ HX0.out (w.heap.size + 1 + 1) 0 (.int .i64 0) (by omega))
 have hY1 := (aH (w1.setCell ⟨w.heap.size + 1 + 1, 0, none⟩ (.int .i64 0)) (.cells #[.int .u32 b, .int .u32 s, .iface xt xv] 247) (by simpa using hl1)).trans (aJ HX1.out (w.heap.size + 1 + 1) 0 (.int .i64 0) (by omega))
 have hY2 := (aH (w1.setCell ⟨w.heap.size + 1 + 1, 0, none⟩ (.int .i64 0)) (.cells #[.int .u32 b, .int .u32 s, .iface xt xv] 247) (by simpa using hl2)).trans (aK HX2.out 0 (.int .i64 0))
 have hYP := (aH (w1.setCell ⟨w.heap.size + 1 + 1, 0, none⟩ (.int .i64 0)) (.cells #[.int .u32 b, .int .u32 s, .iface xt xv] 247) (by simpa using hlp)).trans (aJ HP.out (w.heap.size + 1 + 1) 0 (.int .i64 0) (by omega))
 have hYS := aD (w1.setCell ⟨w.heap.size + 1 + 1, 0, none⟩ (.int .i64 0)) (.cells #[.int .u32 b, .int .u32 s, .iface xt xv] 247)
 have hbW : Below w.heap.size w ((w1.setCell ⟨w.heap.size + 1 + 1, 0, none⟩ (.int .i64 0)).alloc (.cells #[.int .u32 b, .int .u32 s, .iface xt xv] 247)) := aO (hbw.setCell (p := ⟨w.heap.size + 1 + 1, 0, none⟩) (by show w.heap.size <= w.heap.size + 1 + 1; omega) _) _
 generalize ((w1.setCell ⟨w.heap.size + 1 + 1, 0, none⟩ (.int .i64 0)).alloc (.cells #[.int .u32 b, .int .u32 s, .iface xt xv] 247)) = W at *
 have hY2 : W.heap[w.heap.size + 2]? = some (.cells #[.int .i64 0] 51 (0, 0)) := by simpa using hY2
 have hYS : W.heap[w1.heap.size]? = some (.cells #[.int .u32 b, .int .u32 s, .iface xt xv] 247 (0, 0)) := by simpa using hYS
 clear hx2 hf2 HX0 HX1 HX2 HP hbw
 have hx0 := aA hY0 0
 have hx2 := aA hY2 0
 have hp2 := aA hYP 2
 have hs0 := aA hYS 0
 have hs2 := aA hYS 2
 simp only [y0q, y1q, y2q] at hx0 hx2 hp2 hs0 hs2
 have hfp := aG hYP 2
 have hlq := lt_of_block hYS
 have hn1 : (p == w.heap.size) = false := by simp; omega
 have hn2 : (p == w1.heap.size) = false := by simp; omega
 have H0 := Hd hY0
 have H1 := Hd hY1
 have H2 := Hd hY2
 have HP := Hd hYP
 have HS := Hd hYS
 clear hY0 hY1 hY2 hYP hYS
 go_upto_region 8 with (fail)
 clear hx0 hx2 hp2 hfp hn1 hn2
 go_wp2_with fail
 have ho1 : aE (· = p) w (W.setCell ⟨p, 2, none⟩ (.int .i64 1)) := (aE.ofBelow hbW).trans (aE.ofSetCell W ⟨p, 2, none⟩ _ rfl)
 refine (hdev _ ho1).mono ?_
 rintro e Z ⟨rfl, ho2, hTZ⟩
 have hZ0 := ho2.at (aJ H0.out p 2 (.int .i64 1) (by omega)) (fun h => by have := hDl _ h; omega)
 have hZ1 := ho2.at (aJ H1.out p 2 (.int .i64 1) (by omega)) (fun h => by have := hDl _ h; omega)
 have hZ2 := ho2.at (aJ H2.out p 2 (.int .i64 1) (by omega)) (fun h => by have := hDl _ h; omega)
 have hZP := ho2.at (aK HP.out 2 (.int .i64 1)) hDp
 have hz1 := aA hZ1 0
 have hz2 := aA hZ2 0
 simp only [y0q, y1q, y2q] at hz1 hz2
 have hfz1 := aG hZ1 0
 have hfz2 := aG hZ2 0
 have G0 := Hd hZ0
 have G1 := Hd hZ1
 have G2 := Hd hZ2
 have GP := Hd hZP
 have O1 := Hd ho1
 have O2 := Hd ho2
 clear hZ0 hZ1 hZ2 hZP ho1 ho2 hdev H0 H1 H2 HS
 go_wp2_with fail
 have hQ0 := aJ (aJ G0.out (w.heap.size + 1) 0 (.int .u32 v) (by omega)) (w.heap.size + 1 + 1) 0 (.int .i64 E) (by omega)
 have hQ1 := aJ (aK G1.out 0 (.int .u32 v)) (w.heap.size + 1 + 1) 0 (.int .i64 E) (by omega)
 have hQ2 := aK (aJ G2.out (w.heap.size + 1) 0 (.int .u32 v) (by omega)) 0 (.int .i64 E)
 have hQP := aJ (aJ GP.out (w.heap.size + 1) 0 (.int .u32 v) (by omega)) (w.heap.size + 1 + 1) 0 (.int .i64 E) (by omega)
 have hOY : aE (fun k => k = p \/ D k) w (((Z.setCell ⟨w.heap.size + 1, 0, none⟩ (.int .u32 v)).setCell ⟨w.heap.size + 1 + 1, 0, none⟩ (.int .i64 E))) := by
  refine ((O1.out.andThen O2.out (U := fun k => k = p \/ D k) (fun _ _ h => .inl h) (fun _ _ h => .inr h)).andThen (T := (· = w.heap.size + 1)) (aE.ofSetCell _ _ _ rfl) (fun _ _ h => h) (fun i hi h => by omega)).andThen (T := (· = w.heap.size + 1 + 1)) (aE.ofSetCell _ _ _ rfl) (fun _ _ h => h) (fun i hi h => by omega)
 have hTY := hT _ (((Z.setCell ⟨w.heap.size + 1, 0, none⟩ (.int .u32 v)).setCell ⟨w.heap.size + 1 + 1, 0, none⟩ (.int .i64 E))) hTZ ((aE.ofSetCell (S := fun k => k = p \/ w.heap.size <= k) Z ⟨w.heap.size + 1, 0, none⟩ (.int .u32 v) (.inr (by show w.heap.size <= w.heap.size + 1; omega))).trans (aE.ofSetCell (S := fun k => k = p \/ w.heap.size <= k) _ ⟨w.heap.size + 1 + 1, 0, none⟩ (.int .i64 E) (.inr (by show w.heap.size <= w.heap.size + 1 + 1; omega))))
 generalize ((Z.setCell ⟨w.heap.size + 1, 0, none⟩ (.int .u32 v)).setCell ⟨w.heap.size + 1 + 1, 0, none⟩ (.int .i64 E)) = Y0 at *
 refine leaves_cons (f := 172) (args := #[.pointer (some ⟨w.heap.size, 0, none⟩), .pointer (some ⟨w.heap.size + 1 + 1, 0, none⟩), .pointer (some ⟨w.heap.size + 1, 0, none⟩)]) (by simp) (by simp [go_sem]) ?_
 refine (aAR w.heap.size (w.heap.size + 1 + 1) (w.heap.size + 1) p E v Y0 ?_ ?_ ?_ ?_ ?_ ?_ hvE).mono ?_
 . simpa using aA hQ0 0
 . simpa using aA hQP 2
 . exact aG hQP 2
 . simpa using aA hQ2 0
 . exact ⟨by omega, by omega⟩
 . exact hQ1
 rintro e u' Y ⟨rfl, rfl, hY⟩
 refine jQ (Q := fun w' => aE D w w' /\ T w') rfl rfl ((hY.block _).trans (aJ hQ1 p 2 _ (by omega))) ((hY.block _).trans (aJ hQ2 p 2 _ (by omega))) ?_
 have hoY : aE (· = p) Y0 Y := hY.off p 2 _
 refine ⟨(hOY.andThen hoY (U := fun k => k = p \/ D k) (fun _ _ h => h) (fun _ _ h => .inl h)).restored ?_, hT _ _ hTY (hoY.mono fun _ _ h => .inl h)⟩
 rintro k hk (rfl | hD) hnD
 . have h1 := aK hQP 2 (.int .i64 0)
   rw [hY.block, HB.out.cell]
   simpa using h1
 . exact absurd hD hnD
def only (r c : Int) : Bool := (r == 0) && (c == 0)
def Rg.put (x : Rg) (v : Int) : Rg := ⟨stV x.v x.r x.c v, x.s, x.r, x.c⟩
theorem mkf : ∀ (fn : Fn) (first cap : Array Value) (w : World), (Instr.makeFunc fn first cap).run prog w = .ok (.func fn first cap) w := fun _ _ _ _ => rfl
theorem mE (pa : Option Addr) (a E : Int) (w : World) (hE : (E != 0) = true)
 (hf : ∀ w', Below w.heap.size w w' -> Calls prog 171 #[.pointer pa, .int .u32 a] w' fun e w'' => e = .returned (.tuple #[aZ, .int .i64 E]) /\ Below w'.heap.size w' w'') :
 Calls prog 130 #[.pointer pa, .int .u32 a] w fun e w' => e = .returned (.tuple #[.int .u32 0, .int .i64 E]) /\ Below w.heap.size w w' := by
 have hmf := mkf
 go_enter func130, ntmps130
 go_wp2_with fail
 refine (pX pa a E _ _ hE hf).mono ?_
 exact eJ
section
variable (p bm : Nat) (rv : Value) (R : List (Int × Int)) (ks : List Int) (pv : Int -> Value) (Lp : Int -> List Su) (a b s v E : Int) (xt : TypeId) (xv : Value) (F : Nat)
theorem jW (D : Nat -> Prop) (T : World -> Prop) (w : World)
 (a0 : 0 <= a) (a1 : a < 4294967296) (h : (a % 4 != 0) = false) (hB : bM w p bm rv R ks pv Lp) (hvE : E ≠ 0 -> v = 0)
 (hm : ∀ (n : Nat) (w : World), (method (n + 1) xt xv "Load").run prog w = .ok (F, xv) w) (heg : ∀ args w, (callFunc F args).run prog w = .ok (.enter F args) w)
 (hfd : bQ a (Lp (a / 16777216)) = (.agg #[.int .u32 b, .int .u32 s, .iface xt xv], 0)) (hb0 : 0 <= b) (hba : b <= a) (hDp : ¬ D p) (hDl : ∀ k, D k -> k < w.heap.size)
 (hdev : ∀ w', aE (· = p) w w' -> Calls prog F #[xv, .int .u32 (a - b)] w' fun e w'' => e = .returned (.tuple #[.int .u32 v, .int .i64 E]) /\ aE D w' w'' /\ T w'')
 (hT : ∀ u u', T u -> aE (fun k => k = p \/ w.heap.size <= k) u u' -> T u') :
 Calls prog 130 #[.pointer (some ⟨p, 0, none⟩), .int .u32 a] w fun e w' => e = .returned (.tuple #[.int .u32 v, .int .i64 E]) /\ aE D w w' /\ T w' := by
 have hmf := mkf
 have HR := Hd (aAS p bm rv R ks pv Lp a b s v E xt xv F D T w a0 a1 h hB hvE hm heg hfd hb0 hba hDp hDl hdev hT)
 clear hB hvE hm heg hfd hDp hDl hdev hT
 go_enter func130, ntmps130
 go_wp2_with fail
 refine HR.out.mono ?_
 rintro e w1 ⟨rfl, ho, hT⟩
 go_wp2_with fail
 go_ret2
 exact ⟨rfl, ho, hT⟩
end
theorem kZ (w : World) : (zeroValue 301).run prog w = .ok (.agg #[.int .i64 0, .int .i64 0]) w := by kernel_rfl
theorem fV {P : Prop} (h : P := by
 simp [results, results272, go_sem]
 ) : P := h
theorem qO (o : Int) (p : Nat) (w : World) (o0 : 0 <= o) (h : (o % 4 != 0) = true) :
 Calls prog 272 #[.pointer (some ⟨p, 0, none⟩), .int .u32 o] w fun e w' => e = .returned (.tuple #[.agg #[.int .i64 0, .int .i64 0], .int .i64 11]) /\ Below w.heap.size w w' := by
 go_enter func272, ntmps272
 go_wp2_with fail
 refine bodyPost_ret (v := .tuple #[.agg #[.int .i64 0, .int .i64 0], .int .i64 11]) ?_ rfl ?_
 . exact fV
 . exact ⟨rfl, aO (aV w) _⟩
theorem oV (o t : Int) (n : Nat) (D S : Nat -> Int) (p m : Nat) (w : World) (hc : bL w p m t n D S) (o0 : 0 <= o) (o1 : o < 4294967296) (h : (o % 4 != 0) = false) (hno : ∀ q ∈ gH n, q.1 ≠ o) :
 Calls prog 272 #[.pointer (some ⟨p, 0, none⟩), .int .u32 o] w fun e w' => e = .returned (.tuple #[.agg #[.int .i64 0, .int .i64 0], .int .i64 10]) /\ Below w.heap.size w w' := by
 have c := hc.cM
 have hM := hc.map.kept (aH w (.cells #[.int .i64 0, .int .i64 0] 301) hc.ltm)
 have hl := hc.ltp
 clear hc
 go_enter func272, ntmps272
 go_wp2_with (at_lookup; refine iG bS rfl _ _ _ rfl underlying166 rfl hM o _ rfl hno ⟨o0, o1⟩ (kZ _) ?_)
 refine bodyPost_ret (v := .tuple #[.agg #[.int .i64 0, .int .i64 0], .int .i64 10]) ?_ rfl ?_
 . exact fV
 . exact ⟨rfl, aO (aO (aV w) _) _⟩
theorem aAw (o t k h : Int) (n : Nat) (D S : Nat -> Int) (p m : Nat) (w : World) (hc : bL w p m t n D S) (o0 : 0 <= o) (o4 : (o % 4 != 0) = false) (hin : (o, bK k h) ∈ gH n) :
 Calls prog 272 #[.pointer (some ⟨p, 0, none⟩), .int .u32 o] w fun e w' => e = .returned (.tuple #[.agg #[.int .i64 k, .int .i64 h], .int .i64 0]) /\ Below w.heap.size w w' := by
 have c := hc.cM
 have hM := hc.map.kept (aH w (.cells #[.int .i64 0, .int .i64 0] 301) hc.ltm)
 have hl := hc.ltp
 clear hc
 unfold bK at hin
 go_enter func272, ntmps272
 go_wp2_with (at_lookup; refine iP bS rfl _ _ _ rfl underlying166 rfl hM o _ rfl hin ?_)
 refine bodyPost_ret (v := .tuple #[.agg #[.int .i64 k, .int .i64 h], .int .i64 0]) ?_ rfl ?_
 . exact fV
 . exact ⟨rfl, aO (aO (aV w) _) _⟩
def gV (t : Int) (D S : Nat -> Int) (k h : Nat) : Int := match k with
 | 0 => S h
 | 1 => lo (D h)
 | 2 => hi (D h)
 | 3 => lo t
 | _ => hi t
theorem iT {P : Prop} (h : P := by
 refine wpQuiet_nil ?_
 intro _ hw'
 obtain ⟨⟨dq, osq⟩, hw''⟩ := hw'
 subst hw''
 go_wp2_with fail
 go_ret
 exact ⟨rfl, trG (aO (aV w) _) _ _⟩
 ) : P := h
theorem yC (t : Int) (k h n : Nat) (D S : Nat -> Int) (p m : Nat) (w : World) (hc : bL w p m t n D S) (hk : k < 5) (hh : h < 8) :
 Calls prog 273 #[.pointer (some ⟨p, 0, none⟩), .agg #[.int .i64 k, .int .i64 h]] w fun e w' => e = .returned (.int .u32 (gV t D S k h)) /\ Below w.heap.size w w' := by
 have hg := bY
 have hl1 : w.heap.size < w.heap.size + 1 := by omega
 have hl2 : p < w.heap.size + 1 := by have := hc.ltp; omega
 have c0 := hc.c0
 have cD := hc.cD h hh
 have cS := hc.cS h hh
 have hl := hc.ltp
 have t0 := hc.t0
 have t1 := hc.t1
 obtain ⟨d0, d1⟩ := hc.d h
 clear hc
 obtain rfl | rfl | rfl | rfl | rfl : k = 0 \/ k = 1 \/ k = 2 \/ k = 3 \/ k = 4 := by omega
 . rw [show gV t D S 0 h = S h from rfl]
   go_enter func273, ntmps273
   go_wp2_with fail
   go_quiet (fail)
   go_wp2_with fail
   go_ret
   exact ⟨rfl, trN (aO (aV w) _) _⟩
 . rw [show gV t D S 1 h = lo (D h) from rfl]
   go_enter func273, ntmps273
   go_wp2_with fail
   refine wp_region_quiet_below (by kernel_rfl) (by kernel_rfl) ?_
   repeat (go_big_quiet_step (first | (go_at_call 163; exact Calls.regrown_of ((Lo _ _ d0 d1).mono fun _ _ h => ⟨h.1, h.2 ▸ aV _⟩))))
   exact iT
 . rw [show gV t D S 2 h = hi (D h) from rfl]
   go_enter func273, ntmps273
   go_wp2_with fail
   refine wp_region_quiet_below (by kernel_rfl) (by kernel_rfl) ?_
   repeat (go_big_quiet_step (first | (go_at_call 229; exact Calls.regrown_of ((Hi _ _ d0 d1).mono fun _ _ h => ⟨h.1, h.2 ▸ aV _⟩))))
   exact iT
 . rw [show gV t D S 3 h = lo t from rfl]
   go_enter func273, ntmps273
   go_wp2_with (go_at_call 163; refine (Lo _ _ t0 t1).mono ?_; rintro e w' ⟨rfl, rfl⟩)
   go_ret
   exact ⟨rfl, aO (aV w) _⟩
 . rw [show gV t D S 4 h = hi t from rfl]
   go_enter func273, ntmps273
   go_wp2_with (go_at_call 229; refine (Hi _ _ t0 t1).mono ?_; rintro e w' ⟨rfl, rfl⟩)
   go_ret
   exact ⟨rfl, aO (aV w) _⟩
theorem fI (o t : Int) (k h n : Nat) (D S : Nat -> Int) (p m : Nat) (w : World) (hc : bL w p m t n D S) (hk : k < 5) (hh : h < 8) (o0 : 0 <= o) (o4 : (o % 4 != 0) = false) (hin : (o, bK k h) ∈ gH n) :
 Calls prog 269 #[.pointer (some ⟨p, 0, none⟩), .int .u32 o] w fun e w' => e = .returned (.tuple #[.int .u32 (gV t D S k h), .int .i64 0]) /\ Below w.heap.size w w' := by
 go_enter func269, ntmps269
 go_wp2_with fail
 refine (aAw o t k h n D S p m _ hc o0 o4 hin).mono ?_
 rintro e w1 ⟨rfl, hb⟩
 have H := Hd (hc.below (aO hb (.cells #[.int .i64 k, .int .i64 h] 301)))
 go_wp2_with fail
 refine (yC t k h n D S p m _ H.out hk hh).mono ?_
 rintro e w2 ⟨rfl, hb2⟩
 go_wp2_with fail
 go_ret2
 exact ⟨rfl, tr (aO hb _) hb2⟩
theorem sE {n h : Nat} (hn : h < n) : (4 * (h : Int), bK (0 : Nat) h) ∈ gH n := (eO n _).2 (.inr (.inr ⟨h, hn, .inr (.inr rfl)⟩))
theorem vL {n h : Nat} (hn : h < n) : (16384 + 8 * (h : Int), bK (1 : Nat) h) ∈ gH n := (eO n _).2 (.inr (.inr ⟨h, hn, .inr (.inl rfl)⟩))
theorem rZ {n h : Nat} (hn : h < n) : (16384 + 8 * (h : Int) + 4, bK (2 : Nat) h) ∈ gH n := (eO n _).2 (.inr (.inr ⟨h, hn, .inl rfl⟩))
theorem zI (n : Nat) : (49144, bK (3 : Nat) (0 : Nat)) ∈ gH n := (eO n _).2 (.inr (.inl rfl))
theorem zH (n : Nat) : (49148, bK (4 : Nat) (0 : Nat)) ∈ gH n := (eO n _).2 (.inl rfl)
theorem aAy (o t : Int) (n : Nat) (D S : Nat -> Int) (p m : Nat) (w : World) (hc : bL w p m t n D S) (o0 : 0 <= o) (o1 : o < 4294967296) :
 Calls prog 269 #[.pointer (some ⟨p, 0, none⟩), .int .u32 o] w fun e w' => e = .returned (.tuple #[.int .u32 (eA t n D S o), .int .i64 (cT n o)]) /\ Below w.heap.size w w' := by
 have n8 := hc.n1
 rcases xQ n o with h | h | h | ⟨h, hn, e⟩ | ⟨h, hn, e⟩ | ⟨h, hn, e⟩ | ⟨h4, h1, h2, h⟩
 . rw [oI h, kC (by rw [oI h]; omega)]
   have h' : (o % 4 != 0) = true := by simpa using h
   go_enter func269, ntmps269
   go_wp2_with fail
   refine (qO _ _ _ o0 h').mono ?_
   rintro e w1 ⟨rfl, hb⟩
   go_wp2_with fail
   go_ret2
   exact ⟨rfl, aO hb _⟩
 . subst h; rw [zL, sK]; exact fI _ t 3 0 n D S p m w hc (by omega) (by omega) o0 (by decide) (zI n)
 . subst h; rw [zB, rP]; exact fI _ t 4 0 n D S p m w hc (by omega) (by omega) o0 (by decide) (zH n)
 . subst e; rw [tZ hn n8, lY hn]; exact fI _ t 0 h n D S p m w hc (by omega) (by omega) o0 (ne4 (by omega)) (sE hn)
 . subst e; rw [vO hn n8, oC hn]; exact fI _ t 1 h n D S p m w hc (by omega) (by omega) o0 (ne4 (by omega)) (vL hn)
 . subst e; rw [rR hn n8, lP hn]; exact fI _ t 2 h n D S p m w hc (by omega) (by omega) o0 (ne4 (by omega)) (rZ hn)
 . have he := sR o0 h4 h1 h2 h
   rw [he, kC (by rw [he]; omega)]
   have h' : (o % 4 != 0) = false := by simpa using h4
   have hno := sA n o h1 h2 h
   have HN := Hd hno
   clear h4 hno h he
   go_enter func269, ntmps269
   go_wp2_with fail
   refine (oV _ _ _ _ _ _ _ _ hc o0 o1 h' HN.out).mono ?_
   rintro e w1 ⟨rfl, hb⟩
   go_wp2_with fail
   go_ret2
   exact ⟨rfl, aO hb _⟩
def iR (W : World) (x : Nat) (k h : Int) : Prop := W.heap[x]? = some (.cells #[.int .i64 k, .int .i64 h] 301 (0, 0))
theorem iR.c0 {W : World} {x : Nat} {k h : Int} (a : iR W x k h) : W.cell? ⟨x, 0, none⟩ = some (.int .i64 k) := by have := aA a 0; simpa using this
theorem iR.c1 {W : World} {x : Nat} {k h : Int} (a : iR W x k h) : W.cell? ⟨x, 1, none⟩ = some (.int .i64 h) := by have := aA a 1; simpa using this
theorem iR.lt {W : World} {x : Nat} {k h : Int} (a : iR W x k h) : x < W.heap.size := lt_of_block a
end Go.Proofs.YtealhichdbimlaaGreat.B
