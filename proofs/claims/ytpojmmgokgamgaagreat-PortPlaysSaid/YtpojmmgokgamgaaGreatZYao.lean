/- A part of the proof of a law of layer 12: ao. -/
import Derived.Test.YtpojmmgokgamgaaGreatZYan
set_option linter.unusedVariables false
set_option linter.unusedSimpArgs false
set_option maxHeartbeats 12800000
set_option maxRecDepth 100000
namespace Go.Proofs.YtpojmmgokgamgaaGreat.B
open Go.Proofs.Tryz
open List renaming getElem?_toArray -> y0q, getElem?_cons_zero -> y1q
open Go.ChangeShapes Go.WideShapes Go.RowKit Go.Sort Go.MapKept
structure aCA (u w : World) : Prop where
 os : w.os = u.os
 tape : w.tape = u.tape
 output : w.output = u.output
 size : w.heap.size = u.heap.size
 block : ∀ k : Nat, w.heap[k]? = u.heap[k]?
theorem aCA.refl (w : World) : aCA w w := ⟨rfl, rfl, rfl, rfl, fun _ => rfl⟩
theorem aCA.off {u w : World} (p j : Nat) (v : Value) (h : aCA (u.setCell ⟨p, j, none⟩ v) w) : aF (· = p) u w := by
 have o := aG u p j v
 exact ⟨h.os.trans o.os, h.tape.trans o.tape, h.output.trans o.output, by rw [h.size]; exact o.size, fun k hk hs => (h.block k).trans (o.block k hk hs)⟩
theorem aHE {w : World} {b : Nat} {x : Value} {t : TypeId} (h : w.heap[b]? = some (.cells #[x] t (0, 0))) : aCA w (w.setCell ⟨b, 0, none⟩ x) := by
 have hb := Below.setCell (Below.refl b w) (p := ⟨b, 0, none⟩) (Nat.le_refl _) x
 refine ⟨hb.os, hb.tape, hb.output, by simp, fun k => ?_⟩
 by_cases e : k = b
 . subst e; rw [aS h, h]; simp
 . exact Below.heap_setCell w ⟨b, 0, none⟩ x k e
theorem aLG (pb pe pv p : Nat) (E v : Int) (w : World) (h0 : w.cell? ⟨pb, 0, none⟩ = some (.pointer (some ⟨p, 0, none⟩))) (h1 : w.cell? ⟨p, 2, none⟩ = some (.int .i64 1)) (h2 : w.frozen? ⟨p, 2, none⟩ = false)
 (h3 : w.cell? ⟨pe, 0, none⟩ = some (.int .i64 E)) (hne : pe ≠ p /\ pv ≠ p) (h5 : w.heap[pv]? = some (.cells #[.int .u32 v] 22 (0, 0))) (hv : E ≠ 0 -> v = 0) :
 CallsD prog 206 #[.pointer (some ⟨pb, 0, none⟩), .pointer (some ⟨pe, 0, none⟩), .pointer (some ⟨pv, 0, none⟩)] .returning w
  fun e u' w' => e = .returned (.tuple #[]) /\ u' = .returning /\ aCA (w.setCell ⟨p, 2, none⟩ (.int .i64 0)) w' := by
 by_cases hE : E = 0
 . subst hE
   exact (aIz pb pe pv p w h0 h1 h2 h3 hne.1).mono fun e u' w' g => ⟨g.1, g.2.1, g.2.2 ▸ aCA.refl _⟩
 . obtain rfl : v = 0 := hv hE
   refine callsD_of_wpS func206 rfl fun c₀ cs hu => ?_
   have h4 : (w.setCell ⟨p, 2, none⟩ (.int .i64 0)).cell? ⟨pe, 0, none⟩ = some (.int .i64 E) := by
    rw [World.cell?_of_block (a := ⟨pe, 0, none⟩) (Below.heap_setCell w ⟨p, 2, none⟩ (.int .i64 0) pe hne.1)]; exact h3
   have h6 : (w.setCell ⟨p, 2, none⟩ (.int .i64 0)).heap[pv]? = some (.cells #[.int .u32 0] 22 (0, 0)) := aW h5 p 2 _ hne.2
   have h7 := aA h6 0
   simp only [y0q, y1q] at h7
   have h8 := aN h6 0
   have HS := Hd (aHE h6)
   have hwr : IntKind.i64.wrap 0 = 0 := by decide
   have hE1 : (E == 0) = false := by simpa using hE
   have hE2 : (E != 0) = true := by simpa using hE
   clear h5 h6
   apply wpS_seq
   apply wpS_region
   simp [wpOpsS, go_sem, recoverD, hu, ntmps206, Exit.thenS, h0, h1, h2, hwr]
   apply wpS_seq
   apply wpS_seq
   apply wpS_region
   simp [wpOpsS, go_sem, recoverD, hu, Exit.thenS]
   refine wpS_cond (t := false) (by simp [Act.eval, Array.replicate]) ?_
   simp only [Bool.false_eq_true, if_false]
   refine wpS_of_wp (wp_skip ?_)
   simp only [Exit.thenS]
   apply wpS_seq
   apply wpS_region
   simp [wpOpsS, go_sem, Exit.thenS, h4, hE, hE1, hE2]
   refine wpS_cond (t := true) (by simp [Act.eval, Array.replicate]) ?_
   simp only [if_true]
   apply wpS_region
   simp [wpOpsS, go_sem, Exit.thenS, h7, h8]
   cases c₀
   simp_all [bodyPostS, results, results206]
   exact HS.out
theorem uQ {P : Prop} (h : P := by
 have hmf : ∀ (fn : Fn) (first cap : Array Value) (w : World), (Instr.makeFunc fn first cap).run prog w = .ok (.func fn first cap) w := fun _ _ _ _ => rfl
 go_enter_defers func163, ntmps163
 go_wp2_with fail
 refine (aHS a _ _ p bm rv R ks pv Lp _ a0 a1 h ?_ hfd).mono ?_
 . exact hB.ofBelow (aE (aE (aE (aI w) _) _) _)
 rintro e w1 ⟨rfl, hb1⟩
 have hP := aC hb1 ((aOr w _ _ _ hB.ltp).trans hB.cell) (by rw [aBc]; have := hB.ltp; omega)
 have hX0 := aC hb1 (aBQ w _ _ _) (by rw [aBc]; omega)
 have hX1 := aC hb1 (aCa w _ _ _) (by rw [aBc]; omega)
 have hX2 := aC hb1 (aCU w _ _ _) (by rw [aBc]; omega)
 have hx2 := aA hX2 0
 simp only [y0q, y1q, List.getElem?_cons_succ] at hx2
 have hf2 := aN hX2 0
 have hl0 := lt_of_block hX0
 have hl1 := lt_of_block hX1
 have hl2 := lt_of_block hX2
 have hlp0 := hB.ltp
 have hlp := lt_of_block hP
 have hbw : Below w.heap.size w w1 := tr (aE (aE (aE (aI w) _) _) _) hb1
 have HX0 := Hd hX0
 have HX1 := Hd hX1
 have HX2 := Hd hX2
 have HP := Hd hP
 have HB := Hd hB
 clear hX0 hX1 hX2 hb1 hP hB
 go_upto_region 2 with (fail)
 have hY0 := (aX (w1.setCell ⟨w.heap.size + 1 + 1, 0, none⟩ (.int .i64 0)) (.cells #[.int .u32 b, .int .u32 s, .iface xt xv] 197) (by simpa using hl0)).trans (aW HX0.out (w.heap.size + 1 + 1) 0 (.int .i64 0) (by omega))
 have hY1 := (aX (w1.setCell ⟨w.heap.size + 1 + 1, 0, none⟩ (.int .i64 0)) (.cells #[.int .u32 b, .int .u32 s, .iface xt xv] 197) (by simpa using hl1)).trans (aW HX1.out (w.heap.size + 1 + 1) 0 (.int .i64 0) (by omega))
 have hY2 := (aX (w1.setCell ⟨w.heap.size + 1 + 1, 0, none⟩ (.int .i64 0)) (.cells #[.int .u32 b, .int .u32 s, .iface xt xv] 197) (by simpa using hl2)).trans (aS HX2.out 0 (.int .i64 0))
 have hYP := (aX (w1.setCell ⟨w.heap.size + 1 + 1, 0, none⟩ (.int .i64 0)) (.cells #[.int .u32 b, .int .u32 s, .iface xt xv] 197) (by simpa using hlp)).trans (aW HP.out (w.heap.size + 1 + 1) 0 (.int .i64 0) (by omega))
 have hYS := aD (w1.setCell ⟨w.heap.size + 1 + 1, 0, none⟩ (.int .i64 0)) (.cells #[.int .u32 b, .int .u32 s, .iface xt xv] 197)
 have hbW : Below w.heap.size w ((w1.setCell ⟨w.heap.size + 1 + 1, 0, none⟩ (.int .i64 0)).alloc (.cells #[.int .u32 b, .int .u32 s, .iface xt xv] 197)) := aE (hbw.setCell (p := ⟨w.heap.size + 1 + 1, 0, none⟩) (by show w.heap.size <= w.heap.size + 1 + 1; omega) _) _
 generalize ((w1.setCell ⟨w.heap.size + 1 + 1, 0, none⟩ (.int .i64 0)).alloc (.cells #[.int .u32 b, .int .u32 s, .iface xt xv] 197)) = W at *
 have hY2 : W.heap[w.heap.size + 2]? = some (.cells #[.int .i64 0] 28 (0, 0)) := by simpa using hY2
 have hYS : W.heap[w1.heap.size]? = some (.cells #[.int .u32 b, .int .u32 s, .iface xt xv] 197 (0, 0)) := by simpa using hYS
 clear hx2 hf2 HX0 HX1 HX2 HP hbw
 have hx0 := aA hY0 0
 have hx2 := aA hY2 0
 have hp2 := aA hYP 2
 have hs0 := aA hYS 0
 have hs2 := aA hYS 2
 simp only [y0q, y1q, List.getElem?_cons_succ] at hx0 hx2 hp2 hs0 hs2
 have hfp := aN hYP 2
 have hlq := lt_of_block hYS
 have hn1 : (p == w.heap.size) = false := by simp; omega
 have hn2 : (p == w1.heap.size) = false := by simp; omega
 have H0 := Hd hY0
 have H1 := Hd hY1
 have H2 := Hd hY2
 have HP := Hd hYP
 have HS := Hd hYS
 clear hY0 hY1 hY2 hYP hYS
 go_upto_region 8 with (fail)
 clear hx0 hx2 hp2 hfp hn1 hn2
 go_wp2_with fail
 have ho1 : aF (· = p) w (W.setCell ⟨p, 2, none⟩ (.int .i64 1)) := (aF.ofBelow hbW).trans (aF.ofSetCell W ⟨p, 2, none⟩ _ rfl)
 refine (hdev _ ho1).mono ?_
 rintro e Z ⟨rfl, ho2, hTZ⟩
 have hZ0 := ho2.at (aW H0.out p 2 (.int .i64 1) (by omega)) (fun h => by have := hDl _ h; omega)
 have hZ1 := ho2.at (aW H1.out p 2 (.int .i64 1) (by omega)) (fun h => by have := hDl _ h; omega)
 have hZ2 := ho2.at (aW H2.out p 2 (.int .i64 1) (by omega)) (fun h => by have := hDl _ h; omega)
 have hZP := ho2.at (aS HP.out 2 (.int .i64 1)) hDp
 have hz1 := aA hZ1 0
 have hz2 := aA hZ2 0
 simp only [y0q, y1q, List.getElem?_cons_succ] at hz1 hz2
 have hfz1 := aN hZ1 0
 have hfz2 := aN hZ2 0
 have G0 := Hd hZ0
 have G1 := Hd hZ1
 have G2 := Hd hZ2
 have GP := Hd hZP
 have O1 := Hd ho1
 have O2 := Hd ho2
 clear hZ0 hZ1 hZ2 hZP ho1 ho2 hdev H0 H1 H2 HS
 go_wp2_with fail
 have hQ0 := aW (aW G0.out (w.heap.size + 1) 0 (.int .u32 v) (by omega)) (w.heap.size + 1 + 1) 0 (.int .i64 E) (by omega)
 have hQ1 := aW (aS G1.out 0 (.int .u32 v)) (w.heap.size + 1 + 1) 0 (.int .i64 E) (by omega)
 have hQ2 := aS (aW G2.out (w.heap.size + 1) 0 (.int .u32 v) (by omega)) 0 (.int .i64 E)
 have hQP := aW (aW GP.out (w.heap.size + 1) 0 (.int .u32 v) (by omega)) (w.heap.size + 1 + 1) 0 (.int .i64 E) (by omega)
 have hOY : aF (fun k => k = p \/ D k) w (((Z.setCell ⟨w.heap.size + 1, 0, none⟩ (.int .u32 v)).setCell ⟨w.heap.size + 1 + 1, 0, none⟩ (.int .i64 E))) := by
  refine ((O1.out.andThen O2.out (U := fun k => k = p \/ D k) (fun _ _ h => .inl h) (fun _ _ h => .inr h)).andThen (T := (· = w.heap.size + 1)) (aF.ofSetCell _ _ _ rfl) (fun _ _ h => h) (fun i hi h => by omega)).andThen (T := (· = w.heap.size + 1 + 1)) (aF.ofSetCell _ _ _ rfl) (fun _ _ h => h) (fun i hi h => by omega)
 have hTY := hT _ (((Z.setCell ⟨w.heap.size + 1, 0, none⟩ (.int .u32 v)).setCell ⟨w.heap.size + 1 + 1, 0, none⟩ (.int .i64 E))) hTZ ((aF.ofSetCell (S := fun k => k = p \/ w.heap.size <= k) Z ⟨w.heap.size + 1, 0, none⟩ (.int .u32 v) (.inr (by show w.heap.size <= w.heap.size + 1; omega))).trans (aF.ofSetCell (S := fun k => k = p \/ w.heap.size <= k) _ ⟨w.heap.size + 1 + 1, 0, none⟩ (.int .i64 E) (.inr (by show w.heap.size <= w.heap.size + 1 + 1; omega))))
 generalize ((Z.setCell ⟨w.heap.size + 1, 0, none⟩ (.int .u32 v)).setCell ⟨w.heap.size + 1 + 1, 0, none⟩ (.int .i64 E)) = Y0 at *
 refine leaves_cons (f := 206) (args := #[.pointer (some ⟨w.heap.size, 0, none⟩), .pointer (some ⟨w.heap.size + 1 + 1, 0, none⟩), .pointer (some ⟨w.heap.size + 1, 0, none⟩)]) (by simp) (by simp [go_sem]) ?_
 refine (aLG w.heap.size (w.heap.size + 1 + 1) (w.heap.size + 1) p E v Y0 ?_ ?_ ?_ ?_ ?_ ?_ hvE).mono ?_
 . simpa using aA hQ0 0
 . simpa using aA hQP 2
 . exact aN hQP 2
 . simpa using aA hQ2 0
 . exact ⟨by omega, by omega⟩
 . exact hQ1
 rintro e u' Y ⟨rfl, rfl, hY⟩
 refine vN (Q := fun w' => aF D w w' /\ T w') rfl rfl ((hY.block _).trans (aW hQ1 p 2 _ (by omega))) ((hY.block _).trans (aW hQ2 p 2 _ (by omega))) ?_
 have hoY : aF (· = p) Y0 Y := hY.off p 2 _
 refine ⟨(hOY.andThen hoY (U := fun k => k = p \/ D k) (fun _ _ h => h) (fun _ _ h => .inl h)).restored ?_, hT _ _ hTY (hoY.mono fun _ _ h => .inl h)⟩
 rintro k hk (rfl | hD) hnD
 . have h1 := aS hQP 2 (.int .i64 0)
   rw [hY.block, HB.out.cell]
   simpa using h1
 . exact absurd hD hnD
 ) : P := h
theorem aLe (p bm : Nat) (rv : Value) (R : List (Int × Int)) (ks : List Int) (pv : Int -> Value) (Lp : Int -> List Su) (a b s v E : Int) (xt : TypeId) (xv : Value) (F : Nat) (D : Nat -> Prop) (T : World -> Prop) (w : World)
 (a0 : 0 <= a) (a1 : a < 4294967296) (h : (a % 4 != 0) = false) (hB : eK w p bm rv R ks pv Lp) (hvE : E ≠ 0 -> v = 0)
 (hm : ∀ (n : Nat) (w : World), (method (n + 1) xt xv "Load").run prog w = .ok (F, xv) w) (heg : ∀ args w, (callFunc F args).run prog w = .ok (.enter F args) w) (hfd : eO a (Lp (a / 16777216)) = (.agg #[.int .u32 b, .int .u32 s, .iface xt xv], 0)) (hb0 : 0 <= b) (hba : b <= a) (hDp : ¬ D p) (hDl : ∀ k, D k -> k < w.heap.size)
 (hdev : ∀ w', aF (· = p) w w' -> Calls prog F #[xv, .int .u32 (a - b)] w' fun e w'' => e = .returned (.tuple #[.int .u32 v, .int .i64 E]) /\ aF D w' w'' /\ T w'')
 (hT : ∀ u u', T u -> aF (fun k => k = p \/ w.heap.size <= k) u u' -> T u') :
 Calls prog 163 #[.pointer (some ⟨p, 0, none⟩),   .int .u32 a, .func (.methodOf 121 "Load") #[] #[]] w fun e w' => e = .returned (.tuple #[.int .u32 v, .int .i64 E]) /\ aF D w w' /\ T w' := by
 exact uQ
def only (r c : Int) : Bool := (r == 0) && (c == 0)
theorem mkf : ∀ (fn : Fn) (first cap : Array Value) (w : World), (Instr.makeFunc fn first cap).run prog w = .ok (.func fn first cap) w := fun _ _ _ _ => rfl
theorem aAt (pa : Option Addr) (a E : Int) (w : World) (hE : (E != 0) = true)
 (hf : ∀ w', Below w.heap.size w w' -> Calls prog 205 #[.pointer pa, .int .u32 a] w' fun e w'' => e = .returned (.tuple #[dI, .int .i64 E]) /\ Below w'.heap.size w' w'') :
 Calls prog 87 #[.pointer pa, .int .u32 a] w fun e w' => e = .returned (.tuple #[.int .u32 0, .int .i64 E]) /\ Below w.heap.size w w' := by
 have hmf := mkf
 go_enter func87, ntmps87
 go_wp2_with fail
 refine (xK pa a E _ _ hE hf).mono ?_
 exact qD
theorem vS (pa : Option Addr) (a E v : Int) (w : World) (hE : (E != 0) = true)
 (hf : ∀ w', Below w.heap.size w w' -> Calls prog 205 #[.pointer pa, .int .u32 a] w' fun e w'' => e = .returned (.tuple #[dI, .int .i64 E]) /\ Below w'.heap.size w' w'') :
 Calls prog 88 #[.pointer pa, .int .u32 a, .int .u32 v] w fun e w' => e = .returned (.int .i64 E) /\ Below w.heap.size w w' := by
 have hmf := mkf
 go_enter func88, ntmps88
 go_wp2_with fail
 refine (xK pa a E _ _ hE (fun w' h => hf w' (tr (aE (aI w) _) h))).mono ?_
 rintro e w1 ⟨rfl, hb⟩
 exact rD
theorem aIb (p bm : Nat) (rv : Value) (R : List (Int × Int)) (ks : List Int) (pv : Int -> Value) (Lp : Int -> List Su) (a b s v E : Int) (xt : TypeId) (xv : Value) (vb : Nat) (D : Nat -> Prop) (T : World -> Prop) (w : World)
 (a0 : 0 <= a) (a1 : a < 4294967296) (h : (a % 4 != 0) = false) (hB : eK w p bm rv R ks pv Lp) (hvE : E ≠ 0 -> v = 0) (hfd : eO a (Lp (a / 16777216)) = (.agg #[.int .u32 b, .int .u32 s, .iface xt xv], 0)) (hb0 : 0 <= b) (hba : b <= a) (hDp : ¬ D p) (hDl : ∀ k, D k -> k < w.heap.size)
 (hdev : ∀ w', aF (· = p) w w' -> Calls prog 164 #[.iface xt xv, .int .u32 (a - b), .pointer (some ⟨vb, 0, none⟩)] w' fun e w'' => e = .returned (.tuple #[.int .u32 v, .int .i64 E]) /\ aF D w' w'' /\ T w'')
 (hT : ∀ u u', T u -> aF (fun k => k = p \/ w.heap.size <= k) u u' -> T u') :
 Calls prog 163 #[.pointer (some ⟨p, 0, none⟩),   .int .u32 a, .func (.func 164) #[] #[.pointer (some ⟨vb, 0, none⟩)]] w fun e w' => e = .returned (.tuple #[.int .u32 v, .int .i64 E]) /\ aF D w w' /\ T w' := by
 exact uQ
theorem aKV (off v E : Int) (xt : TypeId) (xv : Value) (G vb : Nat) (D : Nat -> Prop) (T : World -> Prop) (w : World)
 (hm : ∀ (n : Nat) (w : World), (method (n + 1) xt xv "Store").run prog w = .ok (G, xv) w) (heg : ∀ args w, (callFunc G args).run prog w = .ok (.enter G args) w)
 (hv : w.cell? ⟨vb, 0, none⟩ = some (.int .u32 v)) (hdev : Calls prog G #[xv, .int .u32 off, .int .u32 v] w fun e w' => e = .returned (.int .i64 E) /\ aF D w w' /\ T w') :
 Calls prog 164 #[.iface xt xv, .int .u32 off, .pointer (some ⟨vb, 0, none⟩)] w
  fun e w' => e = .returned (.tuple #[.int .u32 0, .int .i64 E]) /\ aF D w w' /\ T w' := by
 go_enter func164, ntmps164
 go_wp2_with fail
 refine hdev.mono ?_
 rintro e w1 ⟨rfl, h1, h2⟩
 go_wp2_with fail
 go_ret2
 exact ⟨rfl, h1, h2⟩
section
variable (p bm : Nat) (rv : Value) (R : List (Int × Int)) (ks : List Int) (pv : Int -> Value) (Lp : Int -> List Su) (a b s v E : Int) (xt : TypeId) (xv : Value) (F : Nat)
theorem xF (D : Nat -> Prop) (T : World -> Prop) (w : World)
 (a0 : 0 <= a) (a1 : a < 4294967296) (h : (a % 4 != 0) = false) (hB : eK w p bm rv R ks pv Lp) (hvE : E ≠ 0 -> v = 0)
 (hm : ∀ (n : Nat) (w : World), (method (n + 1) xt xv "Load").run prog w = .ok (F, xv) w) (heg : ∀ args w, (callFunc F args).run prog w = .ok (.enter F args) w)
 (hfd : eO a (Lp (a / 16777216)) = (.agg #[.int .u32 b, .int .u32 s, .iface xt xv], 0)) (hb0 : 0 <= b) (hba : b <= a) (hDp : ¬ D p) (hDl : ∀ k, D k -> k < w.heap.size)
 (hdev : ∀ w', aF (· = p) w w' -> Calls prog F #[xv, .int .u32 (a - b)] w' fun e w'' => e = .returned (.tuple #[.int .u32 v, .int .i64 E]) /\ aF D w' w'' /\ T w'')
 (hT : ∀ u u', T u -> aF (fun k => k = p \/ w.heap.size <= k) u u' -> T u') :
 Calls prog 87 #[.pointer (some ⟨p, 0, none⟩), .int .u32 a] w fun e w' => e = .returned (.tuple #[.int .u32 v, .int .i64 E]) /\ aF D w w' /\ T w' := by
 have hmf := mkf
 have HR := Hd (aLe p bm rv R ks pv Lp a b s v E xt xv F D T w a0 a1 h hB hvE hm heg hfd hb0 hba hDp hDl hdev hT)
 clear hB hvE hm heg hfd hDp hDl hdev hT
 go_enter func87, ntmps87
 go_wp2_with fail
 refine HR.out.mono ?_
 rintro e w1 ⟨rfl, ho, hT⟩
 go_wp2_with fail
 go_ret2
 exact ⟨rfl, ho, hT⟩
theorem pX (D : Nat -> Prop) (T : World -> Prop) (w : World)
 (a0 : 0 <= a) (a1 : a < 4294967296) (h : (a % 4 != 0) = false) (hB : eK w p bm rv R ks pv Lp)
 (hm : ∀ (n : Nat) (w : World), (method (n + 1) xt xv "Store").run prog w = .ok (F, xv) w) (heg : ∀ args w, (callFunc F args).run prog w = .ok (.enter F args) w)
 (hfd : eO a (Lp (a / 16777216)) = (.agg #[.int .u32 b, .int .u32 s, .iface xt xv], 0)) (hb0 : 0 <= b) (hba : b <= a) (hDp : ¬ D p) (hDl : ∀ k, D k -> k < w.heap.size)
 (hdev : ∀ w', aF (fun k => k = p \/ w.heap.size <= k) w w' -> Calls prog F #[xv, .int .u32 (a - b), .int .u32 v] w' fun e w'' => e = .returned (.int .i64 E) /\ aF D w' w'' /\ T w'')
 (hT : ∀ u u', T u -> aF (fun k => k = p \/ w.heap.size <= k) u u' -> T u') :
 Calls prog 88 #[.pointer (some ⟨p, 0, none⟩), .int .u32 a, .int .u32 v] w fun e w' => e = .returned (.int .i64 E) /\ aF D w w' /\ T w' := by
 have hmf := mkf
 have hpl := hB.ltp
 have HR := Hd (aIb p bm rv R ks pv Lp a b s 0 E xt xv w.heap.size D T (w.alloc (.cells #[.int .u32 v] 22)) a0 a1 h (hB.ofBelow (aE (aI w) _)) (fun _ => rfl) hfd hb0 hba hDp (fun k hk => by have := hDl k hk; simp; omega)
  (fun w' ho => aKV (a - b) v E xt xv F w.heap.size D T w' hm heg (by rw [ho.cell (by simp) (by show ¬ w.heap.size = p; omega)]; exact aA (aD w (.cells #[.int .u32 v] 22)) 0)
    (hdev w' ((aF.ofAlloc w _).trans (ho.mono fun _ _ h => .inl h))))
  (fun u u' hu ho => hT u u' hu (ho.mono fun k _ h => h.imp id fun h => by simp at h; omega)))
 clear hB hm heg hfd hDp hDl hdev hT
 go_enter func88, ntmps88
 go_wp2_with fail
 refine HR.out.mono ?_
 rintro e w1 ⟨rfl, ho, hT⟩
 go_wp2_with fail
 go_ret
 exact ⟨rfl, (aF.ofAlloc w _).trans ho, hT⟩
end
theorem yG (w : World) : (zeroValue 250).run prog w = .ok (.agg #[.int .i64 0, .int .i64 0]) w := by kernel_rfl
theorem qT {P : Prop} (h : P := by
 simp [results, results258, go_sem]
 ) : P := h
theorem zZ (o : Int) (p : Nat) (w : World) (o0 : 0 <= o) (h : (o % 4 != 0) = true) :
 Calls prog 258 #[.pointer (some ⟨p, 0, none⟩), .int .u32 o] w fun e w' => e = .returned (.tuple #[.agg #[.int .i64 0, .int .i64 0], .int .i64 11]) /\ Below w.heap.size w w' := by
 go_enter func258, ntmps258
 go_wp2_with fail
 refine bodyPost_ret (v := .tuple #[.agg #[.int .i64 0, .int .i64 0], .int .i64 11]) ?_ rfl ?_
 . exact qT
 . exact ⟨rfl, aE (aI w) _⟩
theorem wI (o t : Int) (n : Nat) (D S : Nat -> Int) (p m : Nat) (w : World) (hc : dO w p m t n D S) (o0 : 0 <= o) (o1 : o < 4294967296) (h : (o % 4 != 0) = false) (hno : ∀ q ∈ oJ n, q.1 ≠ o) :
 Calls prog 258 #[.pointer (some ⟨p, 0, none⟩), .int .u32 o] w fun e w' => e = .returned (.tuple #[.agg #[.int .i64 0, .int .i64 0], .int .i64 10]) /\ Below w.heap.size w w' := by
 have c := hc.cM
 have hM := hc.map.kept (aX w (.cells #[.int .i64 0, .int .i64 0] 250) hc.ltm)
 have hl := hc.ltp
 clear hc
 go_enter func258, ntmps258
 go_wp2_with (at_lookup; refine sV fK rfl _ _ _ rfl underlying162 rfl hM o _ rfl hno ⟨o0, o1⟩ (yG _) ?_)
 refine bodyPost_ret (v := .tuple #[.agg #[.int .i64 0, .int .i64 0], .int .i64 10]) ?_ rfl ?_
 . exact qT
 . exact ⟨rfl, aE (aE (aI w) _) _⟩
theorem aAa (o t k h : Int) (n : Nat) (D S : Nat -> Int) (p m : Nat) (w : World) (hc : dO w p m t n D S) (o0 : 0 <= o) (o4 : (o % 4 != 0) = false) (hin : (o, eF k h) ∈ oJ n) :
 Calls prog 258 #[.pointer (some ⟨p, 0, none⟩), .int .u32 o] w fun e w' => e = .returned (.tuple #[.agg #[.int .i64 k, .int .i64 h], .int .i64 0]) /\ Below w.heap.size w w' := by
 have c := hc.cM
 have hM := hc.map.kept (aX w (.cells #[.int .i64 0, .int .i64 0] 250) hc.ltm)
 have hl := hc.ltp
 clear hc
 unfold eF at hin
 go_enter func258, ntmps258
 go_wp2_with (at_lookup; refine uJ fK rfl _ _ _ rfl underlying162 rfl hM o _ rfl hin ?_)
 refine bodyPost_ret (v := .tuple #[.agg #[.int .i64 k, .int .i64 h], .int .i64 0]) ?_ rfl ?_
 . exact qT
 . exact ⟨rfl, aE (aE (aI w) _) _⟩
def sH (t : Int) (D S : Nat -> Int) (k h : Nat) : Int := match k with
 | 0 => S h
 | 1 => lo (D h)
 | 2 => hi (D h)
 | 3 => lo t
 | _ => hi t
theorem wM {P : Prop} (h : P := by
 refine wpQuiet_nil ?_
 intro _ hw'
 obtain ⟨⟨dq, osq⟩, hw''⟩ := hw'
 subst hw''
 go_wp2_with fail
 go_ret
 exact ⟨rfl, trG (aE (aI w) _) _ _⟩
 ) : P := h
theorem aKJ (t : Int) (k h n : Nat) (D S : Nat -> Int) (p m : Nat) (w : World) (hc : dO w p m t n D S) (hk : k < 5) (hh : h < 8) :
 Calls prog 259 #[.pointer (some ⟨p, 0, none⟩), .agg #[.int .i64 k, .int .i64 h]] w fun e w' => e = .returned (.int .u32 (sH t D S k h)) /\ Below w.heap.size w w' := by
 have hg := bI
 have hl1 : w.heap.size < w.heap.size + 1 := by omega
 have hl2 : p < w.heap.size + 1 := by have := hc.ltp; omega
 have c0 := hc.c0
 have cD := hc.cD h hh
 have cS := hc.cS h hh
 have hl := hc.ltp
 have t0 := hc.t0
 have t1 := hc.t1
 obtain ⟨d0, d1⟩ := hc.d h
 clear hc
 obtain rfl | rfl | rfl | rfl | rfl : k = 0 \/ k = 1 \/ k = 2 \/ k = 3 \/ k = 4 := by omega
 . rw [show sH t D S 0 h = S h from rfl]
   go_enter func259, ntmps259
   go_wp2_with fail
   go_quiet (fail)
   go_wp2_with fail
   go_ret
   exact ⟨rfl, tQ (aE (aI w) _) _⟩
 . rw [show sH t D S 1 h = lo (D h) from rfl]
   go_enter func259, ntmps259
   go_wp2_with fail
   refine wp_region_quiet_below (by kernel_rfl) (by kernel_rfl) ?_
   repeat (go_big_quiet_step (first | (go_at_call 180; exact Calls.regrown_of ((Lo _ _ d0 d1).mono fun _ _ h => ⟨h.1, h.2 ▸ aI _⟩))))
   exact wM
 . rw [show sH t D S 2 h = hi (D h) from rfl]
   go_enter func259, ntmps259
   go_wp2_with fail
   refine wp_region_quiet_below (by kernel_rfl) (by kernel_rfl) ?_
   repeat (go_big_quiet_step (first | (go_at_call 219; exact Calls.regrown_of ((Hi _ _ d0 d1).mono fun _ _ h => ⟨h.1, h.2 ▸ aI _⟩))))
   exact wM
 . rw [show sH t D S 3 h = lo t from rfl]
   go_enter func259, ntmps259
   go_wp2_with (go_at_call 180; refine (Lo _ _ t0 t1).mono ?_; rintro e w' ⟨rfl, rfl⟩)
   go_ret
   exact ⟨rfl, aE (aI w) _⟩
 . rw [show sH t D S 4 h = hi t from rfl]
   go_enter func259, ntmps259
   go_wp2_with (go_at_call 219; refine (Hi _ _ t0 t1).mono ?_; rintro e w' ⟨rfl, rfl⟩)
   go_ret
   exact ⟨rfl, aE (aI w) _⟩
theorem oN (o t : Int) (k h n : Nat) (D S : Nat -> Int) (p m : Nat) (w : World) (hc : dO w p m t n D S) (hk : k < 5) (hh : h < 8) (o0 : 0 <= o) (o4 : (o % 4 != 0) = false) (hin : (o, eF k h) ∈ oJ n) :
 Calls prog 255 #[.pointer (some ⟨p, 0, none⟩), .int .u32 o] w fun e w' => e = .returned (.tuple #[.int .u32 (sH t D S k h), .int .i64 0]) /\ Below w.heap.size w w' := by
 go_enter func255, ntmps255
 go_wp2_with fail
 refine (aAa o t k h n D S p m _ hc o0 o4 hin).mono ?_
 rintro e w1 ⟨rfl, hb⟩
 have H := Hd (hc.below (aE hb (.cells #[.int .i64 k, .int .i64 h] 250)))
 go_wp2_with fail
 refine (aKJ t k h n D S p m _ H.out hk hh).mono ?_
 rintro e w2 ⟨rfl, hb2⟩
 go_wp2_with fail
 go_ret2
 exact ⟨rfl, tr (aE hb _) hb2⟩
theorem aAC {n h : Nat} (hn : h < n) : (4 * (h : Int), eF (0 : Nat) h) ∈ oJ n := (nC n _).2 (.inr (.inr ⟨h, hn, .inr (.inr rfl)⟩))
theorem aDU {n h : Nat} (hn : h < n) : (16384 + 8 * (h : Int), eF (1 : Nat) h) ∈ oJ n := (nC n _).2 (.inr (.inr ⟨h, hn, .inr (.inl rfl)⟩))
theorem aAF {n h : Nat} (hn : h < n) : (16384 + 8 * (h : Int) + 4, eF (2 : Nat) h) ∈ oJ n := (nC n _).2 (.inr (.inr ⟨h, hn, .inl rfl⟩))
theorem aGR (n : Nat) : (49144, eF (3 : Nat) (0 : Nat)) ∈ oJ n := (nC n _).2 (.inr (.inl rfl))
theorem aGQ (n : Nat) : (49148, eF (4 : Nat) (0 : Nat)) ∈ oJ n := (nC n _).2 (.inl rfl)
theorem aNb (o t : Int) (n : Nat) (D S : Nat -> Int) (p m : Nat) (w : World) (hc : dO w p m t n D S) (o0 : 0 <= o) (o1 : o < 4294967296) :
 Calls prog 255 #[.pointer (some ⟨p, 0, none⟩), .int .u32 o] w fun e w' => e = .returned (.tuple #[.int .u32 (mD t n D S o), .int .i64 (fP n o)]) /\ Below w.heap.size w w' := by
 have n8 := hc.n1
 rcases aBi n o with h | h | h | ⟨h, hn, e⟩ | ⟨h, hn, e⟩ | ⟨h, hn, e⟩ | ⟨h4, h1, h2, h⟩
 . rw [iO h, pI (by rw [iO h]; omega)]
   have h' : (o % 4 != 0) = true := by simpa using h
   go_enter func255, ntmps255
   go_wp2_with fail
   refine (zZ _ _ _ o0 h').mono ?_
   rintro e w1 ⟨rfl, hb⟩
   go_wp2_with fail
   go_ret2
   exact ⟨rfl, aE hb _⟩
 . subst h; rw [aG7, sJ]; exact oN _ t 3 0 n D S p m w hc (by omega) (by omega) o0 (by decide) (aGR n)
 . subst h; rw [aFn, tF]; exact oN _ t 4 0 n D S p m w hc (by omega) (by omega) o0 (by decide) (aGQ n)
 . subst e; rw [aAZ hn n8, mM hn]; exact oN _ t 0 h n D S p m w hc (by omega) (by omega) o0 (ne4 (by omega)) (aAC hn)
 . subst e; rw [aDE hn n8, pE hn]; exact oN _ t 1 h n D S p m w hc (by omega) (by omega) o0 (ne4 (by omega)) (aDU hn)
 . subst e; rw [aBE hn n8, mJ hn]; exact oN _ t 2 h n D S p m w hc (by omega) (by omega) o0 (ne4 (by omega)) (aAF hn)
 . have he := oO o0 h4 h1 h2 h
   rw [he, pI (by rw [he]; omega)]
   have h' : (o % 4 != 0) = false := by simpa using h4
   have hno := aA1 n o h1 h2 h
   have HN := Hd hno
   clear h4 hno h he
   go_enter func255, ntmps255
   go_wp2_with fail
   refine (wI _ _ _ _ _ _ _ _ hc o0 o1 h' HN.out).mono ?_
   rintro e w1 ⟨rfl, hb⟩
   go_wp2_with fail
   go_ret2
   exact ⟨rfl, aE hb _⟩
end Go.Proofs.YtpojmmgokgamgaaGreat.B
