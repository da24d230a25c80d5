/- A part of the proof of a law of layer 12: am. -/
import Derived.Test.YtaohacadochldaaGreatZNal
set_option linter.unusedVariables false
set_option linter.unusedSimpArgs false
set_option maxHeartbeats 12800000
set_option maxRecDepth 100000
namespace Go.Proofs.YtaohacadochldaaGreat.B
open Go.Proofs.Tryz
open List renaming getElem?_toArray -> y0q, getElem?_cons_zero -> y1q
open Go.ChangeShapes Go.WideShapes Go.RowKit Go.Sort Go.MapKept
structure jA (u w : World) : Prop where
 os : w.os = u.os
 tape : w.tape = u.tape
 output : w.output = u.output
 size : w.heap.size = u.heap.size
 block : ∀ k : Nat, w.heap[k]? = u.heap[k]?
theorem jA.refl (w : World) : jA w w := ⟨rfl, rfl, rfl, rfl, fun _ => rfl⟩
theorem jA.off {u w : World} (p j : Nat) (v : Value) (h : jA (u.setCell ⟨p, j, none⟩ v) w) : aD (· = p) u w := by
 have o := aG u p j v
 exact ⟨h.os.trans o.os, h.tape.trans o.tape, h.output.trans o.output, by rw [h.size]; exact o.size, fun k hk hs => (h.block k).trans (o.block k hk hs)⟩
theorem yH {w : World} {b : Nat} {x : Value} {t : TypeId} (h : w.heap[b]? = some (.cells #[x] t (0, 0))) : jA w (w.setCell ⟨b, 0, none⟩ x) := by
 have hb := Below.setCell (Below.refl b w) (p := ⟨b, 0, none⟩) (Nat.le_refl _) x
 refine ⟨hb.os, hb.tape, hb.output, by simp, fun k => ?_⟩
 by_cases e : k = b
 . subst e; rw [aK h, h]; simp
 . exact Below.heap_setCell w ⟨b, 0, none⟩ x k e
theorem jA.trans {a b c : World} (h : jA a b) (k : jA b c) : jA a c := ⟨k.os.trans h.os, k.tape.trans h.tape, k.output.trans h.output, k.size.trans h.size, fun i => (k.block i).trans (h.block i)⟩
theorem aCA (pb pe pv p : Nat) (E v : Int) (w : World) (h0 : w.cell? ⟨pb, 0, none⟩ = some (.pointer (some ⟨p, 0, none⟩))) (h1 : w.cell? ⟨p, 2, none⟩ = some (.int .i64 1)) (h2 : w.frozen? ⟨p, 2, none⟩ = false)
 (h3 : w.cell? ⟨pe, 0, none⟩ = some (.int .i64 E)) (hne : pe ≠ p /\ pv ≠ p) (h5 : w.heap[pv]? = some (.cells #[.int .u32 v] 26 (0, 0))) (hv : E ≠ 0 -> v = 0) :
 CallsD prog 184 #[.pointer (some ⟨pb, 0, none⟩), .pointer (some ⟨pe, 0, none⟩), .pointer (some ⟨pv, 0, none⟩)] .returning w
  fun e u' w' => e = .returned (.tuple #[]) /\ u' = .returning /\ jA (w.setCell ⟨p, 2, none⟩ (.int .i64 0)) w' := by
 by_cases hE : E = 0
 . subst hE
   exact (aAi pb pe pv p w h0 h1 h2 h3 hne.1).mono fun e u' w' g => ⟨g.1, g.2.1, g.2.2 ▸ jA.refl _⟩
 . obtain rfl : v = 0 := hv hE
   refine callsD_of_wpS func184 rfl fun c₀ cs hu => ?_
   have h4 : (w.setCell ⟨p, 2, none⟩ (.int .i64 0)).cell? ⟨pe, 0, none⟩ = some (.int .i64 E) := by
    rw [World.cell?_of_block (a := ⟨pe, 0, none⟩) (Below.heap_setCell w ⟨p, 2, none⟩ (.int .i64 0) pe hne.1)]; exact h3
   have h6 : (w.setCell ⟨p, 2, none⟩ (.int .i64 0)).heap[pv]? = some (.cells #[.int .u32 0] 26 (0, 0)) := aN h5 p 2 _ hne.2
   have h7 := aA h6 0
   simp only [y0q, y1q] at h7
   have h8 := aH h6 0
   have HS := Hd (yH h6)
   have hwr : IntKind.i64.wrap 0 = 0 := by decide
   have hE1 : (E == 0) = false := by simpa using hE
   have hE2 : (E != 0) = true := by simpa using hE
   clear h5 h6
   apply wpS_seq
   apply wpS_region
   simp [wpOpsS, go_sem, recoverD, hu, ntmps184, Exit.thenS, h0, h1, h2, hwr]
   apply wpS_seq
   apply wpS_seq
   apply wpS_region
   simp [wpOpsS, go_sem, recoverD, hu, Exit.thenS]
   refine wpS_cond (t := false) (by simp [Act.eval, Array.replicate]) ?_
   simp only [Bool.false_eq_true, if_false]
   refine wpS_of_wp (wp_skip ?_)
   simp only [Exit.thenS]
   apply wpS_seq
   apply wpS_region
   simp [wpOpsS, go_sem, Exit.thenS, h4, hE, hE1, hE2]
   refine wpS_cond (t := true) (by simp [Act.eval, Array.replicate]) ?_
   simp only [if_true]
   apply wpS_region
   simp [wpOpsS, go_sem, Exit.thenS, h7, h8]
   cases c₀
   simp_all [bodyPostS, results, results184]
   exact HS.out
theorem lO {P : Prop} (h : P := by
 have hmf : ∀ (fn : Fn) (first cap : Array Value) (w : World), (Instr.makeFunc fn first cap).run prog w = .ok (.func fn first cap) w := fun _ _ _ _ => rfl
 go_enter_defers func106, ntmps106
 go_wp2_with fail
 refine (yR a _ _ p bm rv R ks pv Lp _ a0 a1 h ?_ hfd).mono ?_
 . exact hB.ofBelow (aO (aO (aO (aT w) _) _) _)
 rintro e w1 ⟨rfl, hb1⟩
 have hP := aB hb1 ((aDb w _ _ _ hB.ltp).trans hB.cell) (by rw [qC]; have := hB.ltp; omega)
 have hX0 := aB hb1 (uS w _ _ _) (by rw [qC]; omega)
 have hX1 := aB hb1 (uT w _ _ _) (by rw [qC]; omega)
 have hX2 := aB hb1 (uU w _ _ _) (by rw [qC]; omega)
 have hx2 := aA hX2 0
 simp only [List.getElem?_toArray, List.getElem?_cons_zero, List.getElem?_cons_succ] at hx2
 have hf2 := aH hX2 0
 have hl0 := lt_of_block hX0
 have hl1 := lt_of_block hX1
 have hl2 := lt_of_block hX2
 have hlp0 := hB.ltp
 have hlp := lt_of_block hP
 have hbw : Below w.heap.size w w1 := tr (aO (aO (aO (aT w) _) _) _) hb1
 have HX0 := Hd hX0
 have HX1 := Hd hX1
 have HX2 := Hd hX2
 have HP := Hd hP
 have HB := Hd hB
 clear hX0 hX1 hX2 hb1 hP hB
 go_upto_region 2 with (fail)
 have hY0 := (aJ (w1.setCell ⟨w.heap.size + 1 + 1, 0, none⟩ (.int .i64 0)) (.cells #[.int .u32 b, .int .u32 s, .iface xt xv] 269) (by simpa using hl0)).trans (aN HX0.out (w.heap.size + 1 + 1) 0 (.int .i64 0) (by omega))
 have hY1 := (aJ (w1.setCell ⟨w.heap.size + 1 + 1, 0, none⟩ (.int .i64 0)) (.cells #[.int .u32 b, .int .u32 s, .iface xt xv] 269) (by simpa using hl1)).trans (aN HX1.out (w.heap.size + 1 + 1) 0 (.int .i64 0) (by omega))
 have hY2 := (aJ (w1.setCell ⟨w.heap.size + 1 + 1, 0, none⟩ (.int .i64 0)) (.cells #[.int .u32 b, .int .u32 s, .iface xt xv] 269) (by simpa using hl2)).trans (aK HX2.out 0 (.int .i64 0))
 have hYP := (aJ (w1.setCell ⟨w.heap.size + 1 + 1, 0, none⟩ (.int .i64 0)) (.cells #[.int .u32 b, .int .u32 s, .iface xt xv] 269) (by simpa using hlp)).trans (aN HP.out (w.heap.size + 1 + 1) 0 (.int .i64 0) (by omega))
 have hYS := aF (w1.setCell ⟨w.heap.size + 1 + 1, 0, none⟩ (.int .i64 0)) (.cells #[.int .u32 b, .int .u32 s, .iface xt xv] 269)
 have hbW : Below w.heap.size w ((w1.setCell ⟨w.heap.size + 1 + 1, 0, none⟩ (.int .i64 0)).alloc (.cells #[.int .u32 b, .int .u32 s, .iface xt xv] 269)) := aO (hbw.setCell (p := ⟨w.heap.size + 1 + 1, 0, none⟩) (by show w.heap.size <= w.heap.size + 1 + 1; omega) _) _
 generalize ((w1.setCell ⟨w.heap.size + 1 + 1, 0, none⟩ (.int .i64 0)).alloc (.cells #[.int .u32 b, .int .u32 s, .iface xt xv] 269)) = W at *
 have hY2 : W.heap[w.heap.size + 2]? = some (.cells #[.int .i64 0] 46 (0, 0)) := by simpa using hY2
 have hYS : W.heap[w1.heap.size]? = some (.cells #[.int .u32 b, .int .u32 s, .iface xt xv] 269 (0, 0)) := by simpa using hYS
 clear hx2 hf2 HX0 HX1 HX2 HP hbw
 have hx0 := aA hY0 0
 have hx2 := aA hY2 0
 have hp2 := aA hYP 2
 have hs0 := aA hYS 0
 have hs2 := aA hYS 2
 simp only [List.getElem?_toArray, List.getElem?_cons_zero, List.getElem?_cons_succ] at hx0 hx2 hp2 hs0 hs2
 have hfp := aH hYP 2
 have hlq := lt_of_block hYS
 have hn1 : (p == w.heap.size) = false := by simp; omega
 have hn2 : (p == w1.heap.size) = false := by simp; omega
 have H0 := Hd hY0
 have H1 := Hd hY1
 have H2 := Hd hY2
 have HP := Hd hYP
 have HS := Hd hYS
 clear hY0 hY1 hY2 hYP hYS
 go_upto_region 8 with (fail)
 clear hx0 hx2 hp2 hfp hn1 hn2
 go_wp2_with fail
 have ho1 : aD (· = p) w (W.setCell ⟨p, 2, none⟩ (.int .i64 1)) := (aD.ofBelow hbW).trans (aD.ofSetCell W ⟨p, 2, none⟩ _ rfl)
 refine (hdev _ ho1).mono ?_
 rintro e Z ⟨rfl, ho2, hTZ⟩
 have hZ0 := ho2.at (aN H0.out p 2 (.int .i64 1) (by omega)) (fun h => by have := hDl _ h; omega)
 have hZ1 := ho2.at (aN H1.out p 2 (.int .i64 1) (by omega)) (fun h => by have := hDl _ h; omega)
 have hZ2 := ho2.at (aN H2.out p 2 (.int .i64 1) (by omega)) (fun h => by have := hDl _ h; omega)
 have hZP := ho2.at (aK HP.out 2 (.int .i64 1)) hDp
 have hz1 := aA hZ1 0
 have hz2 := aA hZ2 0
 simp only [List.getElem?_toArray, List.getElem?_cons_zero, List.getElem?_cons_succ] at hz1 hz2
 have hfz1 := aH hZ1 0
 have hfz2 := aH hZ2 0
 have G0 := Hd hZ0
 have G1 := Hd hZ1
 have G2 := Hd hZ2
 have GP := Hd hZP
 have O1 := Hd ho1
 have O2 := Hd ho2
 clear hZ0 hZ1 hZ2 hZP ho1 ho2 hdev H0 H1 H2 HS
 go_wp2_with fail
 have hQ0 := aN (aN G0.out (w.heap.size + 1) 0 (.int .u32 v) (by omega)) (w.heap.size + 1 + 1) 0 (.int .i64 E) (by omega)
 have hQ1 := aN (aK G1.out 0 (.int .u32 v)) (w.heap.size + 1 + 1) 0 (.int .i64 E) (by omega)
 have hQ2 := aK (aN G2.out (w.heap.size + 1) 0 (.int .u32 v) (by omega)) 0 (.int .i64 E)
 have hQP := aN (aN GP.out (w.heap.size + 1) 0 (.int .u32 v) (by omega)) (w.heap.size + 1 + 1) 0 (.int .i64 E) (by omega)
 have hOY : aD (fun k => k = p \/ D k) w (((Z.setCell ⟨w.heap.size + 1, 0, none⟩ (.int .u32 v)).setCell ⟨w.heap.size + 1 + 1, 0, none⟩ (.int .i64 E))) := by
  refine ((O1.out.andThen O2.out (U := fun k => k = p \/ D k) (fun _ _ h => .inl h) (fun _ _ h => .inr h)).andThen (T := (· = w.heap.size + 1)) (aD.ofSetCell _ _ _ rfl) (fun _ _ h => h) (fun i hi h => by omega)).andThen (T := (· = w.heap.size + 1 + 1)) (aD.ofSetCell _ _ _ rfl) (fun _ _ h => h) (fun i hi h => by omega)
 have hTY := hT _ (((Z.setCell ⟨w.heap.size + 1, 0, none⟩ (.int .u32 v)).setCell ⟨w.heap.size + 1 + 1, 0, none⟩ (.int .i64 E))) hTZ ((aD.ofSetCell (S := fun k => k = p \/ w.heap.size <= k) Z ⟨w.heap.size + 1, 0, none⟩ (.int .u32 v) (.inr (by show w.heap.size <= w.heap.size + 1; omega))).trans (aD.ofSetCell (S := fun k => k = p \/ w.heap.size <= k) _ ⟨w.heap.size + 1 + 1, 0, none⟩ (.int .i64 E) (.inr (by show w.heap.size <= w.heap.size + 1 + 1; omega))))
 generalize ((Z.setCell ⟨w.heap.size + 1, 0, none⟩ (.int .u32 v)).setCell ⟨w.heap.size + 1 + 1, 0, none⟩ (.int .i64 E)) = Y0 at *
 refine leaves_cons (f := 184) (args := #[.pointer (some ⟨w.heap.size, 0, none⟩), .pointer (some ⟨w.heap.size + 1 + 1, 0, none⟩), .pointer (some ⟨w.heap.size + 1, 0, none⟩)]) (by simp) (by simp [go_sem]) ?_
 refine (aCA w.heap.size (w.heap.size + 1 + 1) (w.heap.size + 1) p E v Y0 ?_ ?_ ?_ ?_ ?_ ?_ hvE).mono ?_
 . simpa using aA hQ0 0
 . simpa using aA hQP 2
 . exact aH hQP 2
 . simpa using aA hQ2 0
 . exact ⟨by omega, by omega⟩
 . exact hQ1
 rintro e u' Y ⟨rfl, rfl, hY⟩
 refine mF (Q := fun w' => aD D w w' /\ T w') rfl rfl ((hY.block _).trans (aN hQ1 p 2 _ (by omega))) ((hY.block _).trans (aN hQ2 p 2 _ (by omega))) ?_
 have hoY : aD (· = p) Y0 Y := hY.off p 2 _
 refine ⟨(hOY.andThen hoY (U := fun k => k = p \/ D k) (fun _ _ h => h) (fun _ _ h => .inl h)).restored ?_, hT _ _ hTY (hoY.mono fun _ _ h => .inl h)⟩
 rintro k hk (rfl | hD) hnD
 . have h1 := aK hQP 2 (.int .i64 0)
   rw [hY.block, HB.out.cell]
   simpa using h1
 . exact absurd hD hnD
 ) : P := h
theorem aCB (p bm : Nat) (rv : Value) (R : List (Int × Int)) (ks : List Int) (pv : Int -> Value) (Lp : Int -> List Su) (a b s v E : Int) (xt : TypeId) (xv : Value) (F : Nat) (D : Nat -> Prop) (T : World -> Prop) (w : World)
 (a0 : 0 <= a) (a1 : a < 4294967296) (h : (a % 4 != 0) = false) (hB : bQ w p bm rv R ks pv Lp) (hvE : E ≠ 0 -> v = 0)
 (hm : ∀ (n : Nat) (w : World), (method (n + 1) xt xv "Load").run prog w = .ok (F, xv) w) (heg : ∀ args w, (callFunc F args).run prog w = .ok (.enter F args) w) (hfd : bS a (Lp (a / 16777216)) = (.agg #[.int .u32 b, .int .u32 s, .iface xt xv], 0)) (hb0 : 0 <= b) (hba : b <= a) (hDp : ¬ D p) (hDl : ∀ k, D k -> k < w.heap.size)
 (hdev : ∀ w', aD (· = p) w w' -> Calls prog F #[xv, .int .u32 (a - b)] w' fun e w'' => e = .returned (.tuple #[.int .u32 v, .int .i64 E]) /\ aD D w' w'' /\ T w'')
 (hT : ∀ u u', T u -> aD (fun k => k = p \/ w.heap.size <= k) u u' -> T u') :
 Calls prog 106 #[.pointer (some ⟨p, 0, none⟩),   .int .u32 a, .func (.methodOf 182 "Load") #[] #[]] w fun e w' => e = .returned (.tuple #[.int .u32 v, .int .i64 E]) /\ aD D w w' /\ T w' := by
 exact lO
def only (r c : Int) : Bool := (r == 0) && (c == 0)
def Rg.put (x : Rg) (v : Int) : Rg := ⟨stV x.v x.r x.c v, x.s, x.r, x.c⟩
theorem mkf : ∀ (fn : Fn) (first cap : Array Value) (w : World), (Instr.makeFunc fn first cap).run prog w = .ok (.func fn first cap) w := fun _ _ _ _ => rfl
theorem pS (pa : Option Addr) (a E : Int) (w : World) (hE : (E != 0) = true)
 (hf : ∀ w', Below w.heap.size w w' -> Calls prog 183 #[.pointer pa, .int .u32 a] w' fun e w'' => e = .returned (.tuple #[bC, .int .i64 E]) /\ Below w'.heap.size w' w'') :
 Calls prog 134 #[.pointer pa, .int .u32 a] w fun e w' => e = .returned (.tuple #[.int .u32 0, .int .i64 E]) /\ Below w.heap.size w w' := by
 have hmf := mkf
 go_enter func134, ntmps134
 go_wp2_with fail
 refine (mN pa a E _ _ hE hf).mono ?_
 rintro e w1 ⟨rfl, hb⟩
 go_wp2_with fail
 go_ret2
 exact ⟨rfl, hb⟩
theorem mO (pa : Option Addr) (a E v : Int) (w : World) (hE : (E != 0) = true)
 (hf : ∀ w', Below w.heap.size w w' -> Calls prog 183 #[.pointer pa, .int .u32 a] w' fun e w'' => e = .returned (.tuple #[bC, .int .i64 E]) /\ Below w'.heap.size w' w'') :
 Calls prog 59 #[.pointer pa, .int .u32 a, .int .u32 v] w fun e w' => e = .returned (.int .i64 E) /\ Below w.heap.size w w' := by
 have hmf := mkf
 go_enter func59, ntmps59
 go_wp2_with fail
 refine (mN pa a E _ _ hE (fun w' h => hf w' (tr (aO (aT w) _) h))).mono ?_
 rintro e w1 ⟨rfl, hb⟩
 exact hI
theorem aAc (p bm : Nat) (rv : Value) (R : List (Int × Int)) (ks : List Int) (pv : Int -> Value) (Lp : Int -> List Su) (a b s v E : Int) (xt : TypeId) (xv : Value) (vb : Nat) (D : Nat -> Prop) (T : World -> Prop) (w : World)
 (a0 : 0 <= a) (a1 : a < 4294967296) (h : (a % 4 != 0) = false) (hB : bQ w p bm rv R ks pv Lp) (hvE : E ≠ 0 -> v = 0) (hfd : bS a (Lp (a / 16777216)) = (.agg #[.int .u32 b, .int .u32 s, .iface xt xv], 0)) (hb0 : 0 <= b) (hba : b <= a) (hDp : ¬ D p) (hDl : ∀ k, D k -> k < w.heap.size)
 (hdev : ∀ w', aD (· = p) w w' -> Calls prog 107 #[.iface xt xv, .int .u32 (a - b), .pointer (some ⟨vb, 0, none⟩)] w' fun e w'' => e = .returned (.tuple #[.int .u32 v, .int .i64 E]) /\ aD D w' w'' /\ T w'')
 (hT : ∀ u u', T u -> aD (fun k => k = p \/ w.heap.size <= k) u u' -> T u') :
 Calls prog 106 #[.pointer (some ⟨p, 0, none⟩),   .int .u32 a, .func (.func 107) #[] #[.pointer (some ⟨vb, 0, none⟩)]] w fun e w' => e = .returned (.tuple #[.int .u32 v, .int .i64 E]) /\ aD D w w' /\ T w' := by
 exact lO
theorem aB9 (off v E : Int) (xt : TypeId) (xv : Value) (G vb : Nat) (D : Nat -> Prop) (T : World -> Prop) (w : World)
 (hm : ∀ (n : Nat) (w : World), (method (n + 1) xt xv "Store").run prog w = .ok (G, xv) w) (heg : ∀ args w, (callFunc G args).run prog w = .ok (.enter G args) w)
 (hv : w.cell? ⟨vb, 0, none⟩ = some (.int .u32 v)) (hdev : Calls prog G #[xv, .int .u32 off, .int .u32 v] w fun e w' => e = .returned (.int .i64 E) /\ aD D w w' /\ T w') :
 Calls prog 107 #[.iface xt xv, .int .u32 off, .pointer (some ⟨vb, 0, none⟩)] w
  fun e w' => e = .returned (.tuple #[.int .u32 0, .int .i64 E]) /\ aD D w w' /\ T w' := by
 go_enter func107, ntmps107
 go_wp2_with fail
 refine hdev.mono ?_
 rintro e w1 ⟨rfl, h1, h2⟩
 go_wp2_with fail
 go_ret2
 exact ⟨rfl, h1, h2⟩
section
variable (p bm : Nat) (rv : Value) (R : List (Int × Int)) (ks : List Int) (pv : Int -> Value) (Lp : Int -> List Su) (a b s v E : Int) (xt : TypeId) (xv : Value) (F : Nat)
theorem mK (D : Nat -> Prop) (T : World -> Prop) (w : World)
 (a0 : 0 <= a) (a1 : a < 4294967296) (h : (a % 4 != 0) = false) (hB : bQ w p bm rv R ks pv Lp) (hvE : E ≠ 0 -> v = 0)
 (hm : ∀ (n : Nat) (w : World), (method (n + 1) xt xv "Load").run prog w = .ok (F, xv) w) (heg : ∀ args w, (callFunc F args).run prog w = .ok (.enter F args) w)
 (hfd : bS a (Lp (a / 16777216)) = (.agg #[.int .u32 b, .int .u32 s, .iface xt xv], 0)) (hb0 : 0 <= b) (hba : b <= a) (hDp : ¬ D p) (hDl : ∀ k, D k -> k < w.heap.size)
 (hdev : ∀ w', aD (· = p) w w' -> Calls prog F #[xv, .int .u32 (a - b)] w' fun e w'' => e = .returned (.tuple #[.int .u32 v, .int .i64 E]) /\ aD D w' w'' /\ T w'')
 (hT : ∀ u u', T u -> aD (fun k => k = p \/ w.heap.size <= k) u u' -> T u') :
 Calls prog 134 #[.pointer (some ⟨p, 0, none⟩), .int .u32 a] w fun e w' => e = .returned (.tuple #[.int .u32 v, .int .i64 E]) /\ aD D w w' /\ T w' := by
 have hmf := mkf
 have HR := Hd (aCB p bm rv R ks pv Lp a b s v E xt xv F D T w a0 a1 h hB hvE hm heg hfd hb0 hba hDp hDl hdev hT)
 clear hB hvE hm heg hfd hDp hDl hdev hT
 go_enter func134, ntmps134
 go_wp2_with fail
 refine HR.out.mono ?_
 rintro e w1 ⟨rfl, ho, hT⟩
 go_wp2_with fail
 go_ret2
 exact ⟨rfl, ho, hT⟩
theorem iK (D : Nat -> Prop) (T : World -> Prop) (w : World)
 (a0 : 0 <= a) (a1 : a < 4294967296) (h : (a % 4 != 0) = false) (hB : bQ w p bm rv R ks pv Lp)
 (hm : ∀ (n : Nat) (w : World), (method (n + 1) xt xv "Store").run prog w = .ok (F, xv) w) (heg : ∀ args w, (callFunc F args).run prog w = .ok (.enter F args) w)
 (hfd : bS a (Lp (a / 16777216)) = (.agg #[.int .u32 b, .int .u32 s, .iface xt xv], 0)) (hb0 : 0 <= b) (hba : b <= a) (hDp : ¬ D p) (hDl : ∀ k, D k -> k < w.heap.size)
 (hdev : ∀ w', aD (fun k => k = p \/ w.heap.size <= k) w w' -> Calls prog F #[xv, .int .u32 (a - b), .int .u32 v] w' fun e w'' => e = .returned (.int .i64 E) /\ aD D w' w'' /\ T w'')
 (hT : ∀ u u', T u -> aD (fun k => k = p \/ w.heap.size <= k) u u' -> T u') :
 Calls prog 59 #[.pointer (some ⟨p, 0, none⟩), .int .u32 a, .int .u32 v] w fun e w' => e = .returned (.int .i64 E) /\ aD D w w' /\ T w' := by
 have hmf := mkf
 have hpl := hB.ltp
 have HR := Hd (aAc p bm rv R ks pv Lp a b s 0 E xt xv w.heap.size D T (w.alloc (.cells #[.int .u32 v] 26)) a0 a1 h (hB.ofBelow (aO (aT w) _)) (fun _ => rfl) hfd hb0 hba hDp (fun k hk => by have := hDl k hk; simp; omega)
  (fun w' ho => aB9 (a - b) v E xt xv F w.heap.size D T w' hm heg (by rw [ho.cell (by simp) (by show ¬ w.heap.size = p; omega)]; exact aA (aF w (.cells #[.int .u32 v] 26)) 0)
    (hdev w' ((aD.ofAlloc w _).trans (ho.mono fun _ _ h => .inl h))))
  (fun u u' hu ho => hT u u' hu (ho.mono fun k _ h => h.imp id fun h => by simp at h; omega)))
 clear hB hm heg hfd hDp hDl hdev hT
 go_enter func59, ntmps59
 go_wp2_with fail
 refine HR.out.mono ?_
 rintro e w1 ⟨rfl, ho, hT⟩
 go_wp2_with fail
 go_ret
 exact ⟨rfl, (aD.ofAlloc w _).trans ho, hT⟩
end
theorem nU (w : World) : (zeroValue 291).run prog w = .ok (.agg #[.int .i64 0, .int .i64 0]) w := by kernel_rfl
theorem gV {P : Prop} (h : P := by
 simp [results, results271, go_sem]
 ) : P := h
theorem oH (o : Int) (p : Nat) (w : World) (o0 : 0 <= o) (h : (o % 4 != 0) = true) :
 Calls prog 271 #[.pointer (some ⟨p, 0, none⟩), .int .u32 o] w fun e w' => e = .returned (.tuple #[.agg #[.int .i64 0, .int .i64 0], .int .i64 11]) /\ Below w.heap.size w w' := by
 go_enter func271, ntmps271
 go_wp2_with fail
 refine bodyPost_ret (v := .tuple #[.agg #[.int .i64 0, .int .i64 0], .int .i64 11]) ?_ rfl ?_
 . exact gV
 . exact ⟨rfl, aO (aT w) _⟩
theorem lR (o t : Int) (n : Nat) (D S : Nat -> Int) (p m : Nat) (w : World) (hc : bD w p m t n D S) (o0 : 0 <= o) (o1 : o < 4294967296) (h : (o % 4 != 0) = false) (hno : ∀ q ∈ iF n, q.1 ≠ o) :
 Calls prog 271 #[.pointer (some ⟨p, 0, none⟩), .int .u32 o] w fun e w' => e = .returned (.tuple #[.agg #[.int .i64 0, .int .i64 0], .int .i64 10]) /\ Below w.heap.size w w' := by
 have c := hc.cM
 have hM := hc.map.kept (aJ w (.cells #[.int .i64 0, .int .i64 0] 291) hc.ltm)
 have hl := hc.ltp
 clear hc
 go_enter func271, ntmps271
 go_wp2_with (at_lookup; refine kI bY rfl _ _ _ rfl underlying164 rfl hM o _ rfl hno ⟨o0, o1⟩ (nU _) ?_)
 refine bodyPost_ret (v := .tuple #[.agg #[.int .i64 0, .int .i64 0], .int .i64 10]) ?_ rfl ?_
 . exact gV
 . exact ⟨rfl, aO (aO (aT w) _) _⟩
theorem oG (o t k h : Int) (n : Nat) (D S : Nat -> Int) (p m : Nat) (w : World) (hc : bD w p m t n D S) (o0 : 0 <= o) (o4 : (o % 4 != 0) = false) (hin : (o, bN k h) ∈ iF n) :
 Calls prog 271 #[.pointer (some ⟨p, 0, none⟩), .int .u32 o] w fun e w' => e = .returned (.tuple #[.agg #[.int .i64 k, .int .i64 h], .int .i64 0]) /\ Below w.heap.size w w' := by
 have c := hc.cM
 have hM := hc.map.kept (aJ w (.cells #[.int .i64 0, .int .i64 0] 291) hc.ltm)
 have hl := hc.ltp
 clear hc
 unfold bN at hin
 go_enter func271, ntmps271
 go_wp2_with (at_lookup; refine kR bY rfl _ _ _ rfl underlying164 rfl hM o _ rfl hin ?_)
 refine bodyPost_ret (v := .tuple #[.agg #[.int .i64 k, .int .i64 h], .int .i64 0]) ?_ rfl ?_
 . exact gV
 . exact ⟨rfl, aO (aO (aT w) _) _⟩
def jN (t : Int) (D S : Nat -> Int) (k h : Nat) : Int := match k with
 | 0 => S h
 | 1 => lo (D h)
 | 2 => hi (D h)
 | 3 => lo t
 | _ => hi t
theorem kU {P : Prop} (h : P := by
 refine wpQuiet_nil ?_
 intro _ hw'
 obtain ⟨⟨dq, osq⟩, hw''⟩ := hw'
 subst hw''
 go_wp2_with fail
 go_ret
 exact ⟨rfl, trG (aO (aT w) _) _ _⟩
 ) : P := h
theorem aBD (t : Int) (k h n : Nat) (D S : Nat -> Int) (p m : Nat) (w : World) (hc : bD w p m t n D S) (hk : k < 5) (hh : h < 8) :
 Calls prog 272 #[.pointer (some ⟨p, 0, none⟩), .agg #[.int .i64 k, .int .i64 h]] w fun e w' => e = .returned (.int .u32 (jN t D S k h)) /\ Below w.heap.size w w' := by
 have hg := bP
 have hl1 : w.heap.size < w.heap.size + 1 := by omega
 have hl2 : p < w.heap.size + 1 := by have := hc.ltp; omega
 have c0 := hc.c0
 have cD := hc.cD h hh
 have cS := hc.cS h hh
 have hl := hc.ltp
 have t0 := hc.t0
 have t1 := hc.t1
 obtain ⟨d0, d1⟩ := hc.d h
 clear hc
 obtain rfl | rfl | rfl | rfl | rfl : k = 0 \/ k = 1 \/ k = 2 \/ k = 3 \/ k = 4 := by omega
 . rw [show jN t D S 0 h = S h from rfl]
   go_enter func272, ntmps272
   go_wp2_with fail
   go_quiet (fail)
   go_wp2_with fail
   go_ret
   exact ⟨rfl, nS (aO (aT w) _) _⟩
 . rw [show jN t D S 1 h = lo (D h) from rfl]
   go_enter func272, ntmps272
   go_wp2_with fail
   refine wp_region_quiet_below (by kernel_rfl) (by kernel_rfl) ?_
   repeat (go_big_quiet_step (first | (go_at_call 55; exact Calls.regrown_of ((Lo _ _ d0 d1).mono fun _ _ h => ⟨h.1, h.2 ▸ aT _⟩))))
   exact kU
 . rw [show jN t D S 2 h = hi (D h) from rfl]
   go_enter func272, ntmps272
   go_wp2_with fail
   refine wp_region_quiet_below (by kernel_rfl) (by kernel_rfl) ?_
   repeat (go_big_quiet_step (first | (go_at_call 56; exact Calls.regrown_of ((Hi _ _ d0 d1).mono fun _ _ h => ⟨h.1, h.2 ▸ aT _⟩))))
   exact kU
 . rw [show jN t D S 3 h = lo t from rfl]
   go_enter func272, ntmps272
   go_wp2_with (go_at_call 55; refine (Lo _ _ t0 t1).mono ?_; rintro e w' ⟨rfl, rfl⟩)
   go_ret
   exact ⟨rfl, aO (aT w) _⟩
 . rw [show jN t D S 4 h = hi t from rfl]
   go_enter func272, ntmps272
   go_wp2_with (go_at_call 56; refine (Hi _ _ t0 t1).mono ?_; rintro e w' ⟨rfl, rfl⟩)
   go_ret
   exact ⟨rfl, aO (aT w) _⟩
theorem gH (o t : Int) (k h n : Nat) (D S : Nat -> Int) (p m : Nat) (w : World) (hc : bD w p m t n D S) (hk : k < 5) (hh : h < 8) (o0 : 0 <= o) (o4 : (o % 4 != 0) = false) (hin : (o, bN k h) ∈ iF n) :
 Calls prog 268 #[.pointer (some ⟨p, 0, none⟩), .int .u32 o] w fun e w' => e = .returned (.tuple #[.int .u32 (jN t D S k h), .int .i64 0]) /\ Below w.heap.size w w' := by
 go_enter func268, ntmps268
 go_wp2_with fail
 refine (oG o t k h n D S p m _ hc o0 o4 hin).mono ?_
 rintro e w1 ⟨rfl, hb⟩
 have H := Hd (hc.below (aO hb (.cells #[.int .i64 k, .int .i64 h] 291)))
 go_wp2_with fail
 refine (aBD t k h n D S p m _ H.out hk hh).mono ?_
 rintro e w2 ⟨rfl, hb2⟩
 go_wp2_with fail
 go_ret2
 exact ⟨rfl, tr (aO hb _) hb2⟩
theorem oU {n h : Nat} (hn : h < n) : (4 * (h : Int), bN (0 : Nat) h) ∈ iF n := (fI n _).2 (.inr (.inr ⟨h, hn, .inr (.inr rfl)⟩))
theorem rT {n h : Nat} (hn : h < n) : (16384 + 8 * (h : Int), bN (1 : Nat) h) ∈ iF n := (fI n _).2 (.inr (.inr ⟨h, hn, .inr (.inl rfl)⟩))
theorem oR {n h : Nat} (hn : h < n) : (16384 + 8 * (h : Int) + 4, bN (2 : Nat) h) ∈ iF n := (fI n _).2 (.inr (.inr ⟨h, hn, .inl rfl⟩))
theorem wQ (n : Nat) : (49144, bN (3 : Nat) (0 : Nat)) ∈ iF n := (fI n _).2 (.inr (.inl rfl))
theorem wP (n : Nat) : (49148, bN (4 : Nat) (0 : Nat)) ∈ iF n := (fI n _).2 (.inl rfl)
theorem aCZ (o t : Int) (n : Nat) (D S : Nat -> Int) (p m : Nat) (w : World) (hc : bD w p m t n D S) (o0 : 0 <= o) (o1 : o < 4294967296) :
 Calls prog 268 #[.pointer (some ⟨p, 0, none⟩), .int .u32 o] w fun e w' => e = .returned (.tuple #[.int .u32 (gI t n D S o), .int .i64 (dU n o)]) /\ Below w.heap.size w w' := by
 have n8 := hc.n1
 rcases uR n o with h | h | h | ⟨h, hn, e⟩ | ⟨h, hn, e⟩ | ⟨h, hn, e⟩ | ⟨h4, h1, h2, h⟩
 . rw [iU h, mT (by rw [iU h]; omega)]
   have h' : (o % 4 != 0) = true := by simpa using h
   go_enter func268, ntmps268
   go_wp2_with fail
   refine (oH _ _ _ o0 h').mono ?_
   rintro e w1 ⟨rfl, hb⟩
   go_wp2_with fail
   go_ret2
   exact ⟨rfl, aO hb _⟩
 . subst h; rw [aBc, qT]; exact gH _ t 3 0 n D S p m w hc (by omega) (by omega) o0 (by decide) (wQ n)
 . subst h; rw [aBW, qQ]; exact gH _ t 4 0 n D S p m w hc (by omega) (by omega) o0 (by decide) (wP n)
 . subst e; rw [yJ hn n8, kD hn]; exact gH _ t 0 h n D S p m w hc (by omega) (by omega) o0 (ne4 (by omega)) (oU hn)
 . subst e; rw [aAB hn n8, nJ hn]; exact gH _ t 1 h n D S p m w hc (by omega) (by omega) o0 (ne4 (by omega)) (rT hn)
 . subst e; rw [wE hn n8, jL hn]; exact gH _ t 2 h n D S p m w hc (by omega) (by omega) o0 (ne4 (by omega)) (oR hn)
 . have he := pB o0 h4 h1 h2 h
   rw [he, mT (by rw [he]; omega)]
   have h' : (o % 4 != 0) = false := by simpa using h4
   have hno := oT n o h1 h2 h
   have HN := Hd hno
   clear h4 hno h he
   go_enter func268, ntmps268
   go_wp2_with fail
   refine (lR _ _ _ _ _ _ _ _ hc o0 o1 h' HN.out).mono ?_
   rintro e w1 ⟨rfl, hb⟩
   go_wp2_with fail
   go_ret2
   exact ⟨rfl, aO hb _⟩
end Go.Proofs.YtaohacadochldaaGreat.B
