/- A part of the proof of a law of layer 12: az. -/
import Derived.Test.YtaohacadochldaaGreatZCay
import Derived.OwnWalk
set_option linter.unusedVariables false
set_option linter.unusedSimpArgs false
set_option maxHeartbeats 12800000
set_option maxRecDepth 100000
namespace Go.Proofs.YtaohacadochldaaGreat.B
open Go.Proofs.Tryz
open List renaming getElem?_toArray -> y0q
open Go.ChangeShapes Go.WideShapes Go.RowKit Go.Sort
abbrev tW3 : TypeId := 70
def oW3 (d : Int) : Obj := .cells #[.int .u32 4294967295, .int .u32 (hi d), .int .u32 (lo d)] tW3 (0, 0)
theorem qK (d : Int) (w : World) (d0 : 0 <= d) (d1 : d < 18446744073709551616) :
 Calls prog 24 #[.int .u64 d] w fun e w' => e = .returned (.agg #[.int .u32 4294967295, .int .u32 (hi d), .int .u32 (lo d)]) /\ Below w.heap.size w w' := by
 have HN := Hd (fun w' => Lo 18446744073709551615 w' (by decide) (by decide))
 rw [show lo 18446744073709551615 = 4294967295 from by decide] at HN
 have HH := Hd (fun w' => Hi d w' d0 d1)
 have HL := Hd (fun w' => Lo d w' d0 d1)
 have hb0 := aE (aH w) (.cells #[.int .u32 0, .int .u32 0, .int .u32 0] tW3 (0, 0))
 have hX := aD w (.cells #[.int .u32 0, .int .u32 0, .int .u32 0] tW3 (0, 0))
 have HB := Hd hb0
 have HX := Hd hX
 clear d0 d1 hb0 hX
 go_enter func24, ntmps24
 go_upto_region 1 with (fail)
 rw [show Obj.cells #[.int .u32 0, .int .u32 0, .int .u32 0] 70 (0, 0) = .cells #[.int .u32 0, .int .u32 0, .int .u32 0] tW3 (0, 0) from rfl]
 generalize w.alloc (.cells #[.int .u32 0, .int .u32 0, .int .u32 0] tW3 (0, 0)) = W at *
 have f0 := aK HX.out 0
 have f1 := aK HX.out 1
 have f2 := aK HX.out 2
 have hl := lt_of_block HX.out
 have g0 := aA HX.out 0
 have g1 := aA HX.out 1
 have g2 := aA HX.out 2
 simp only [y0q, List.getElem?_cons_zero, List.getElem?_cons_succ] at g0 g1 g2
 go_wp2_with (first
  | (go_at_call 55; refine (HN.out _).mono ?_; rintro e w1 ⟨rfl, rfl⟩; clear HN)
  | (go_at_call 56; refine (HH.out _).mono ?_; rintro e w1 ⟨rfl, rfl⟩; clear HH)
  | (go_at_call 55; refine (HL.out _).mono ?_; rintro e w1 ⟨rfl, rfl⟩; clear HL))
 have h1 := aR (aR (aR HX.out 0 (.int .u32 4294967295)) 1 (.int .u32 (hi d))) 2 (.int .u32 (lo d))
 refine bodyPost_ret (v := .agg #[.int .u32 4294967295, .int .u32 (hi d), .int .u32 (lo d)]) ?_ rfl ⟨rfl, ((HB.out.setCell (p := ⟨w.heap.size, 0, none⟩) (Nat.le_refl _) _).setCell (p := ⟨w.heap.size, 1, none⟩) (Nat.le_refl _) _).setCell (p := ⟨w.heap.size, 2, none⟩) (Nat.le_refl _) _⟩
 exact aS rfl _ _ w.heap.size 0 _ [.int .u32 4294967295, .int .u32 (hi d), .int .u32 (lo d)] rfl h1 underlying70 rfl (by kernel_rfl) (aL _)
theorem ix0 (a b c : Value) (w : World) : (Instr.index 70 (.agg #[a, b, c]) (.int .i64 0)).run prog w = .ok a w := by kernel_rfl
theorem ix1 (a b c : Value) (w : World) : (Instr.index 70 (.agg #[a, b, c]) (.int .i64 1)).run prog w = .ok b w := by kernel_rfl
theorem ix2 (a b c : Value) (w : World) : (Instr.index 70 (.agg #[a, b, c]) (.int .i64 2)).run prog w = .ok c w := by kernel_rfl
structure kU (q wb : Nat) (B : Bp) (gv : Value) (d : Int) (w0 : World) (p : Pt) (w : World) : Prop where
 L : bA q B p gv w0 w
 K : w.heap[wb]? = some (oW3 d)
section
variable {q wb m h : Nat} {B : Bp} {p : Pt} {gv : Value} {d : Int} {w0 w : World}
theorem kU.sto (A : kU q wb B gv d w0 p w) (ok : p.ok m) (hm : m < 4294967290) {a v : Int} (a0 : 0 <= a) (a1 : a < 4294967296) (v0 : 0 <= v) (v1 : v < 4294967296) :
 Calls prog 30 #[.pointer (some ⟨q, 0, none⟩), .int .u32 a, .int .u32 v] w fun e w' => e = .returned (.int .i64 (p.ste B.n B.c a v)) /\ kU q wb B gv d w0 (p.stp B.n B.c a v) w' := by
 obtain ⟨⟨ev', h1, ho, he⟩, K⟩ := A
 refine (aCt q { B with ev := ev' } p gv m a v w h1 ok hm a0 a1 v0 v1).mono ?_
 rintro e w' ⟨rfl, hL⟩
 exact ⟨rfl, bA.andThen ho he hL, bA.kq h1 hL _ _ _ _ K (by decide) rfl⟩
theorem kU.c (A : kU q wb B gv d w0 p w) (j : Nat) (v : Value) (hv : [Value.int .u32 4294967295, .int .u32 (hi d), .int .u32 (lo d)][j]? = some v) : w.cell? ⟨wb, j, none⟩ = some v := by
 rw [aA A.K, y0q]
 exact hv
theorem kU.lt (A : kU q wb B gv d w0 p w) : wb < w.heap.size := lt_of_block A.K
end
def stq (q : Nat) : Value := .func (.func 30) #[.pointer (some ⟨q, 0, none⟩)] #[]
theorem nR {P : Prop} (h : P := by
 rw [Exit.noGoto_ret]
 go_ret
 exact ⟨rfl, HA.out.L⟩
 ) : P := h
theorem aMw (q h m : Nat) (B : Bp) (p : Pt) (gv : Value) (d : Int) (w : World) (H : aT w q B p gv) (ok : p.ok m) (hm : m < 4294967200) (hn : h < B.n) (d0 : 0 <= d) (d1 : d < 18446744073709551616) (e1 : p.ste B.n B.c (ca h) 4294967295 = 13) :
 Calls prog 31 #[stq q, .int .u32 (ca h), .int .u64 d] w fun e w' => e = .returned (.int .i64 13) /\ bA q B (p.stp B.n B.c (ca h) 4294967295) gv w w' := by
 have h8 := H.bd.ok.n8
 have HB := fZ d0 d1
 have cb := iY (show h < 8 by omega)
 have k1 := cV ok H.bd.ok H.bd.still (by omega) (ca h) (v := 4294967295) (by decide) (by decide)
 have k2 := cV k1.1 k1.2.1 k1.2.2 (by omega) (ca h + 4) HB.1 HB.2
 have HW := Hd (qK d w d0 d1)
 have HH := Hd H
 have C1 := Hd (fun wb w' (A : kU q wb B gv d w p w') => A.sto ok (by omega) (a := (ca h)) (v := 4294967295) cb.1 (by omega) (by decide) (by decide))
 rw [e1] at C1
 clear H ok hm hn d0 d1 h8 HB k1 k2 e1
 generalize (p.stp B.n B.c (ca h) 4294967295) = p1 at *
 generalize ca h = a at *
 have a0 := cb.1
 have a1 := cb.2
 clear cb
 rw [show stq q = .func (.func 30) #[.pointer (some ⟨q, 0, none⟩)] #[] from rfl]
 go_enter func31, ntmps31
 go_wp2_with fail
 go_step3
 go_upto_region 2 with (go_at_call 24; refine (HW.out).mono ?_; rintro e w1 ⟨rfl, hb⟩; have HBW := Hd hb; clear hb HW)
 rw [show Obj.cells #[.int .u32 4294967295, .int .u32 (hi d), .int .u32 (lo d)] 70 (0, 0) = oW3 d from rfl]
 have hb2 := aE HBW.out (oW3 d)
 have HA := Hd (show kU q w1.heap.size B gv d w p (w1.alloc (oW3 d)) from ⟨aT.left HH.out hb2, aD w1 _⟩)
 clear hb2 HBW HH
 generalize w1.alloc (oW3 d) = W at *
 generalize w1.heap.size = wb at *
 go_wp2_with fail
 go_step3
 go_wp2_with fail
 have i0 := ix0
 have i1 := ix1
 have i2 := ix2
 refine wp_loop_rounds 1 ?_
 rw [rounds_succ]
 have c := HA.out.c 0 _ rfl
 have hl := HA.out.lt
 go_wp2_with (refine (C1.out _ _ HA.out).mono ?_; rintro e w2 ⟨rfl, hA⟩; have HA := Hd hA; clear hA c hl C1)
 exact nR
theorem aMx (q h m : Nat) (B : Bp) (p : Pt) (gv : Value) (d : Int) (w : World) (H : aT w q B p gv) (ok : p.ok m) (hm : m < 4294967200) (hn : h < B.n) (d0 : 0 <= d) (d1 : d < 18446744073709551616) (e1 : p.ste B.n B.c (ca h) 4294967295 = 0) (e2 : (p.stp B.n B.c (ca h) 4294967295).ste B.n B.c (ca h + 4) (hi d) = 13) :
 Calls prog 31 #[stq q, .int .u32 (ca h), .int .u64 d] w fun e w' => e = .returned (.int .i64 13) /\ bA q B ((p.stp B.n B.c (ca h) 4294967295).stp B.n B.c (ca h + 4) (hi d)) gv w w' := by
 have h8 := H.bd.ok.n8
 have HB := fZ d0 d1
 have cb := iY (show h < 8 by omega)
 have k1 := cV ok H.bd.ok H.bd.still (by omega) (ca h) (v := 4294967295) (by decide) (by decide)
 have k2 := cV k1.1 k1.2.1 k1.2.2 (by omega) (ca h + 4) HB.1 HB.2
 have HW := Hd (qK d w d0 d1)
 have HH := Hd H
 have C1 := Hd (fun wb w' (A : kU q wb B gv d w p w') => A.sto ok (by omega) (a := (ca h)) (v := 4294967295) cb.1 (by omega) (by decide) (by decide))
 rw [e1] at C1
 have C2 := Hd (fun wb w' (A : kU q wb B gv d w (p.stp B.n B.c (ca h) 4294967295) w') => A.sto k1.1 (by omega) (a := (ca h + 4)) (v := (hi d)) (by omega) (by omega) HB.1 HB.2)
 rw [e2] at C2
 clear H ok hm hn d0 d1 h8 HB k1 k2 e1 e2
 generalize ((p.stp B.n B.c (ca h) 4294967295).stp B.n B.c (ca h + 4) (hi d)) = p2 at *
 generalize (p.stp B.n B.c (ca h) 4294967295) = p1 at *
 generalize ca h = a at *
 have a0 := cb.1
 have a1 := cb.2
 clear cb
 rw [show stq q = .func (.func 30) #[.pointer (some ⟨q, 0, none⟩)] #[] from rfl]
 go_enter func31, ntmps31
 go_wp2_with fail
 go_step3
 go_upto_region 2 with (go_at_call 24; refine (HW.out).mono ?_; rintro e w1 ⟨rfl, hb⟩; have HBW := Hd hb; clear hb HW)
 rw [show Obj.cells #[.int .u32 4294967295, .int .u32 (hi d), .int .u32 (lo d)] 70 (0, 0) = oW3 d from rfl]
 have hb2 := aE HBW.out (oW3 d)
 have HA := Hd (show kU q w1.heap.size B gv d w p (w1.alloc (oW3 d)) from ⟨aT.left HH.out hb2, aD w1 _⟩)
 clear hb2 HBW HH
 generalize w1.alloc (oW3 d) = W at *
 generalize w1.heap.size = wb at *
 go_wp2_with fail
 go_step3
 go_wp2_with fail
 have i0 := ix0
 have i1 := ix1
 have i2 := ix2
 refine wp_loop_rounds 2 ?_
 rw [rounds_succ]
 have c := HA.out.c 0 _ rfl
 have hl := HA.out.lt
 go_wp2_with (refine (C1.out _ _ HA.out).mono ?_; rintro e w2 ⟨rfl, hA⟩; have HA := Hd hA; clear hA c hl C1)
 rw [rounds_succ]
 have c := HA.out.c 1 _ rfl
 have hl := HA.out.lt
 go_wp2_with (refine (C2.out _ _ HA.out).mono ?_; rintro e w3 ⟨rfl, hA⟩; have HA := Hd hA; clear hA c hl C2)
 exact nR
theorem aMy (q h m : Nat) (B : Bp) (p : Pt) (gv : Value) (d : Int) (w : World) (H : aT w q B p gv) (ok : p.ok m) (hm : m < 4294967200) (hn : h < B.n) (d0 : 0 <= d) (d1 : d < 18446744073709551616) (e1 : p.ste B.n B.c (ca h) 4294967295 = 0) (e2 : (p.stp B.n B.c (ca h) 4294967295).ste B.n B.c (ca h + 4) (hi d) = 0) (e3 : ((p.stp B.n B.c (ca h) 4294967295).stp B.n B.c (ca h + 4) (hi d)).ste B.n B.c (ca h) (lo d) = 13) :
 Calls prog 31 #[stq q, .int .u32 (ca h), .int .u64 d] w fun e w' => e = .returned (.int .i64 13) /\ bA q B (((p.stp B.n B.c (ca h) 4294967295).stp B.n B.c (ca h + 4) (hi d)).stp B.n B.c (ca h) (lo d)) gv w w' := by
 have h8 := H.bd.ok.n8
 have HB := fZ d0 d1
 have cb := iY (show h < 8 by omega)
 have k1 := cV ok H.bd.ok H.bd.still (by omega) (ca h) (v := 4294967295) (by decide) (by decide)
 have k2 := cV k1.1 k1.2.1 k1.2.2 (by omega) (ca h + 4) HB.1 HB.2
 have HW := Hd (qK d w d0 d1)
 have HH := Hd H
 have C1 := Hd (fun wb w' (A : kU q wb B gv d w p w') => A.sto ok (by omega) (a := (ca h)) (v := 4294967295) cb.1 (by omega) (by decide) (by decide))
 rw [e1] at C1
 have C2 := Hd (fun wb w' (A : kU q wb B gv d w (p.stp B.n B.c (ca h) 4294967295) w') => A.sto k1.1 (by omega) (a := (ca h + 4)) (v := (hi d)) (by omega) (by omega) HB.1 HB.2)
 rw [e2] at C2
 have C3 := Hd (fun wb w' (A : kU q wb B gv d w ((p.stp B.n B.c (ca h) 4294967295).stp B.n B.c (ca h + 4) (hi d)) w') => A.sto k2.1 (by omega) (a := (ca h)) (v := (lo d)) cb.1 (by omega) (dQ d) (mF d))
 rw [e3] at C3
 clear H ok hm hn d0 d1 h8 HB k1 k2 e1 e2 e3
 generalize (((p.stp B.n B.c (ca h) 4294967295).stp B.n B.c (ca h + 4) (hi d)).stp B.n B.c (ca h) (lo d)) = p3 at *
 generalize ((p.stp B.n B.c (ca h) 4294967295).stp B.n B.c (ca h + 4) (hi d)) = p2 at *
 generalize (p.stp B.n B.c (ca h) 4294967295) = p1 at *
 generalize ca h = a at *
 have a0 := cb.1
 have a1 := cb.2
 clear cb
 rw [show stq q = .func (.func 30) #[.pointer (some ⟨q, 0, none⟩)] #[] from rfl]
 go_enter func31, ntmps31
 go_wp2_with fail
 go_step3
 go_upto_region 2 with (go_at_call 24; refine (HW.out).mono ?_; rintro e w1 ⟨rfl, hb⟩; have HBW := Hd hb; clear hb HW)
 rw [show Obj.cells #[.int .u32 4294967295, .int .u32 (hi d), .int .u32 (lo d)] 70 (0, 0) = oW3 d from rfl]
 have hb2 := aE HBW.out (oW3 d)
 have HA := Hd (show kU q w1.heap.size B gv d w p (w1.alloc (oW3 d)) from ⟨aT.left HH.out hb2, aD w1 _⟩)
 clear hb2 HBW HH
 generalize w1.alloc (oW3 d) = W at *
 generalize w1.heap.size = wb at *
 go_wp2_with fail
 go_step3
 go_wp2_with fail
 have i0 := ix0
 have i1 := ix1
 have i2 := ix2
 refine wp_loop_rounds 3 ?_
 rw [rounds_succ]
 have c := HA.out.c 0 _ rfl
 have hl := HA.out.lt
 go_wp2_with (refine (C1.out _ _ HA.out).mono ?_; rintro e w2 ⟨rfl, hA⟩; have HA := Hd hA; clear hA c hl C1)
 rw [rounds_succ]
 have c := HA.out.c 1 _ rfl
 have hl := HA.out.lt
 go_wp2_with (refine (C2.out _ _ HA.out).mono ?_; rintro e w3 ⟨rfl, hA⟩; have HA := Hd hA; clear hA c hl C2)
 rw [rounds_succ]
 have c := HA.out.c 2 _ rfl
 have hl := HA.out.lt
 go_wp2_with (refine (C3.out _ _ HA.out).mono ?_; rintro e w4 ⟨rfl, hA⟩; have HA := Hd hA; clear hA c hl C3)
 exact nR
theorem aJH (q h m : Nat) (B : Bp) (p : Pt) (gv : Value) (d : Int) (w : World) (H : aT w q B p gv) (ok : p.ok m) (hm : m < 4294967200) (hn : h < B.n) (d0 : 0 <= d) (d1 : d < 18446744073709551616) (e1 : p.ste B.n B.c (ca h) 4294967295 = 0) (e2 : (p.stp B.n B.c (ca h) 4294967295).ste B.n B.c (ca h + 4) (hi d) = 0) (e3 : ((p.stp B.n B.c (ca h) 4294967295).stp B.n B.c (ca h + 4) (hi d)).ste B.n B.c (ca h) (lo d) = 0) :
 Calls prog 31 #[stq q, .int .u32 (ca h), .int .u64 d] w fun e w' => e = .returned (.int .i64 0) /\ bA q B (((p.stp B.n B.c (ca h) 4294967295).stp B.n B.c (ca h + 4) (hi d)).stp B.n B.c (ca h) (lo d)) gv w w' := by
 have h8 := H.bd.ok.n8
 have HB := fZ d0 d1
 have cb := iY (show h < 8 by omega)
 have k1 := cV ok H.bd.ok H.bd.still (by omega) (ca h) (v := 4294967295) (by decide) (by decide)
 have k2 := cV k1.1 k1.2.1 k1.2.2 (by omega) (ca h + 4) HB.1 HB.2
 have HW := Hd (qK d w d0 d1)
 have HH := Hd H
 have C1 := Hd (fun wb w' (A : kU q wb B gv d w p w') => A.sto ok (by omega) (a := (ca h)) (v := 4294967295) cb.1 (by omega) (by decide) (by decide))
 rw [e1] at C1
 have C2 := Hd (fun wb w' (A : kU q wb B gv d w (p.stp B.n B.c (ca h) 4294967295) w') => A.sto k1.1 (by omega) (a := (ca h + 4)) (v := (hi d)) (by omega) (by omega) HB.1 HB.2)
 rw [e2] at C2
 have C3 := Hd (fun wb w' (A : kU q wb B gv d w ((p.stp B.n B.c (ca h) 4294967295).stp B.n B.c (ca h + 4) (hi d)) w') => A.sto k2.1 (by omega) (a := (ca h)) (v := (lo d)) cb.1 (by omega) (dQ d) (mF d))
 rw [e3] at C3
 clear H ok hm hn d0 d1 h8 HB k1 k2 e1 e2 e3
 generalize (((p.stp B.n B.c (ca h) 4294967295).stp B.n B.c (ca h + 4) (hi d)).stp B.n B.c (ca h) (lo d)) = p3 at *
 generalize ((p.stp B.n B.c (ca h) 4294967295).stp B.n B.c (ca h + 4) (hi d)) = p2 at *
 generalize (p.stp B.n B.c (ca h) 4294967295) = p1 at *
 generalize ca h = a at *
 have a0 := cb.1
 have a1 := cb.2
 clear cb
 rw [show stq q = .func (.func 30) #[.pointer (some ⟨q, 0, none⟩)] #[] from rfl]
 go_enter func31, ntmps31
 go_wp2_with fail
 go_step3
 go_upto_region 2 with (go_at_call 24; refine (HW.out).mono ?_; rintro e w1 ⟨rfl, hb⟩; have HBW := Hd hb; clear hb HW)
 rw [show Obj.cells #[.int .u32 4294967295, .int .u32 (hi d), .int .u32 (lo d)] 70 (0, 0) = oW3 d from rfl]
 have hb2 := aE HBW.out (oW3 d)
 have HA := Hd (show kU q w1.heap.size B gv d w p (w1.alloc (oW3 d)) from ⟨aT.left HH.out hb2, aD w1 _⟩)
 clear hb2 HBW HH
 generalize w1.alloc (oW3 d) = W at *
 generalize w1.heap.size = wb at *
 go_wp2_with fail
 go_step3
 go_wp2_with fail
 have i0 := ix0
 have i1 := ix1
 have i2 := ix2
 refine wp_loop_rounds 4 ?_
 rw [rounds_succ]
 have c := HA.out.c 0 _ rfl
 have hl := HA.out.lt
 go_wp2_with (refine (C1.out _ _ HA.out).mono ?_; rintro e w2 ⟨rfl, hA⟩; have HA := Hd hA; clear hA c hl C1)
 rw [rounds_succ]
 have c := HA.out.c 1 _ rfl
 have hl := HA.out.lt
 go_wp2_with (refine (C2.out _ _ HA.out).mono ?_; rintro e w3 ⟨rfl, hA⟩; have HA := Hd hA; clear hA c hl C2)
 rw [rounds_succ]
 have c := HA.out.c 2 _ rfl
 have hl := HA.out.lt
 go_wp2_with (refine (C3.out _ _ HA.out).mono ?_; rintro e w4 ⟨rfl, hA⟩; have HA := Hd hA; clear hA c hl C3)
 rw [rounds_succ]
 go_wp2_with fail
 exact nR
theorem aO3 (q h m : Nat) (B : Bp) (p : Pt) (gv : Value) (d : Int) (w : World) (H : aT w q B p gv) (ok : p.ok m) (hm : m < 4294967200) (hn : h < B.n) (d0 : 0 <= d) (d1 : d < 18446744073709551616) :
 Calls prog 31 #[stq q, .int .u32 (ca h), .int .u64 d] w fun e w' => e = .returned (.int .i64 (p.arm B.n B.c h d).e) /\ bA q B (p.arm B.n B.c h d).p gv w w' := by
 have h8 := H.bd.ok.n8
 unfold Pt.arm
 rcases gX (p := p) (c := B.c) (v := 4294967295) hn h8 (.inl rfl) with e1 | e1
 . rw [if_pos e1]
   rcases gX (p := p.stp B.n B.c (ca h) 4294967295) (c := B.c) (v := hi d) hn h8 (.inr rfl) with e2 | e2
   . rw [if_pos e2]
     rcases gX (p := (p.stp B.n B.c (ca h) 4294967295).stp B.n B.c (ca h + 4) (hi d)) (c := B.c) (v := lo d) hn h8 (.inl rfl) with e3 | e3
     . rw [e3]
       exact aJH q h m B p gv d w H ok hm hn d0 d1 e1 e2 e3
     . rw [e3]
       exact aMy q h m B p gv d w H ok hm hn d0 d1 e1 e2 e3
   . rw [if_neg (by rw [e2]; decide), e2]
     exact aMx q h m B p gv d w H ok hm hn d0 d1 e1 e2
 . rw [if_neg (by rw [e1]; decide), e1]
   exact aMw q h m B p gv d w H ok hm hn d0 d1 e1
abbrev tSh : TypeId := 86
def shO (q h : Nat) (l : Int) : Obj := .cells #[.pointer (some ⟨q, 0, none⟩), .int .i64 h, .int .u64 l] tSh (0, 0)
def gD (w : World) (c q h : Nat) (l : Int) : Prop := w.heap[c]? = some (shO q h l)
theorem gD.lt {w : World} {c q h : Nat} {l : Int} (K : gD w c q h l) : c < w.heap.size := lt_of_block K
theorem gD.below {w w' : World} {c q h : Nat} {l : Int} (K : gD w c q h l) (hb : Below w.heap.size w w') : gD w' c q h l := aC hb K (lt_of_block K)
theorem gD.c0 {w : World} {c q h : Nat} {l : Int} (K : gD w c q h l) : w.cell? ⟨c, 0, none⟩ = some (.pointer (some ⟨q, 0, none⟩)) := by have := aA K 0; simpa using this
theorem gD.c1 {w : World} {c q h : Nat} {l : Int} (K : gD w c q h l) : w.cell? ⟨c, 1, none⟩ = some (.int .i64 h) := by have := aA K 1; simpa using this
theorem gD.c2 {w : World} {c q h : Nat} {l : Int} (K : gD w c q h l) : w.cell? ⟨c, 2, none⟩ = some (.int .u64 l) := by have := aA K 2; simpa using this
theorem gD.set {w : World} {c q h : Nat} {l : Int} (K : gD w c q h l) (l' : Int) : gD (w.setCell ⟨c, 2, none⟩ (.int .u64 l')) c q h l' := by
 unfold gD
 rw [aR K]
 rfl
theorem aFX (a : Option Addr) (h : Int) (w : World) : (Instr.build 84 #[(0, .pointer a), (1, .int .i64 h)]).run prog w = .ok (.agg #[.pointer a, .int .i64 h]) w := by kernel_rfl
theorem aFW (a : Option Addr) (h l : Int) (w : World) : (Instr.build 86 #[(0, .agg #[.pointer a, .int .i64 h]), (1, .int .u64 l)]).run prog w = .ok (.agg #[.pointer a, .int .i64 h, .int .u64 l]) w := by kernel_rfl
theorem aOA (a b c : Value) (w : World) : (Instr.field 75 (.agg #[a, b, c]) 0).run prog w = .ok a w := by kernel_rfl
theorem aP8 (q h : Nat) (w : World) (h8 : h < 8) :
 Calls prog 32 #[.agg #[.pointer (some ⟨q, 0, none⟩), .int .i64 h]] w fun e w' => e = .returned (.int .u32 (ca h)) /\ Below w.heap.size w w' := by
 have hb := aE (aH w) (.cells #[.pointer (some ⟨q, 0, none⟩), .int .i64 h] 84 (0, 0))
 have hX := aD w (.cells #[.pointer (some ⟨q, 0, none⟩), .int .i64 h] 84 (0, 0))
 have HB := Hd hb
 have HX := Hd hX
 have h0 : (0 : Int) <= h := by omega
 have h1 : (h : Int) < 8 := by omega
 have e1 : IntKind.u32.wrap (h : Int) = h := by rw [IntKind.wrap_u32]; omega
 have e2 : IntKind.u32.wrap (8 * (h : Int)) = 8 * h := by rw [IntKind.wrap_u32]; omega
 have e3 : IntKind.u32.wrap (33570816 + 8 * (h : Int)) = 33570816 + 8 * h := by rw [IntKind.wrap_u32]; omega
 clear hb hX h8
 unfold ca
 go_enter func32, ntmps32
 go_upto_region 1 with (fail)
 generalize w.alloc (.cells #[.pointer (some ⟨q, 0, none⟩), .int .i64 h] 84 (0, 0)) = W at *
 have c1 := aA HX.out 1
 simp only [y0q, List.getElem?_cons_zero, List.getElem?_cons_succ] at c1
 go_wp2_with fail
 go_ret
 exact ⟨rfl, HB.out⟩
theorem aKl (q : Nat) (B : Bp) (p : Pt) (gv : Value) (h : Nat) (w : World) (H : aT w q B p gv) (hn : h < B.n) :
 Calls prog 8 #[.pointer (some ⟨q, 0, none⟩), .int .i64 h] w fun e w' => ∃ c, e = .returned (.tuple #[.pointer (some ⟨c, 0, none⟩), .int .i64 0]) /\ gD w' c q h 18446744073709551615 /\ w.heap.size <= c /\ Below w.heap.size w w' := by
 have b1 := aFX
 have b2 := aFW
 have b3 := aOA
 have q0 : decide ((h : Int) < 0) = false := decide_eq_false (by omega)
 have q1 : decide ((B.n : Int) <= (h : Int)) = false := decide_eq_false (by omega)
 have q2 : decide (B.n <= h) = false := decide_eq_false (by omega)
 have HB := Hd (pI q B p gv w H)
 have HC := Hd (fun w' (hb : Below w.heap.size w w') => aAr B p.x w' (H.bd.below hb))
 clear H hn
 go_enter func8, ntmps8
 go_wp2_with (first
  | (go_at_call 20; refine (HB.out).mono ?_; rintro e w1 ⟨rfl, hb⟩; have HX := Hd hb; clear hb HB)
  | (go_at_call 29; refine (HC.out _ HX.out).mono ?_; rintro e w2 ⟨rfl, hb⟩; have HX := Hd (tr HX.out hb); clear hb HC))
 go_ret2
 exact ⟨_, rfl, aD _ _, HX.out.size, aE HX.out _⟩
theorem aJI (q : Nat) (B : Bp) (p : Pt) (gv : Value) (h : Int) (w : World) (H : aT w q B p gv) (hn : h < 0 \/ (B.n : Int) <= h) :
 Calls prog 8 #[.pointer (some ⟨q, 0, none⟩), .int .i64 h] w fun e w' => e = .returned (.tuple #[.pointer none, .int .i64 5]) /\ Below w.heap.size w w' := by
 have b3 := aOA
 by_cases h0 : h < 0
 . have q0 : decide (h < 0) = true := decide_eq_true h0
   clear H hn
   go_enter func8, ntmps8
   go_wp2_with fail
   go_ret2
   exact ⟨rfl, aH _⟩
 . have q0 : decide (h < 0) = false := decide_eq_false h0
   have q1 : decide ((B.n : Int) <= h) = true := decide_eq_true (by omega)
   have HB := Hd (pI q B p gv w H)
   have HC := Hd (fun w' (hb : Below w.heap.size w w') => aAr B p.x w' (H.bd.below hb))
   clear H hn h0
   go_enter func8, ntmps8
   go_wp2_with (first
    | (go_at_call 20; refine (HB.out).mono ?_; rintro e w1 ⟨rfl, hb⟩; have HX := Hd hb; clear hb HB)
    | (go_at_call 29; refine (HC.out _ HX.out).mono ?_; rintro e w2 ⟨rfl, hb⟩; have HX := Hd (tr HX.out hb); clear hb HC))
   go_ret2
   exact ⟨rfl, HX.out⟩
section
variable {c q h : Nat} {l : Int} {w : World}
theorem aAS (K : gD w c q h l) : Calls prog 16 #[.pointer (some ⟨c, 0, none⟩)] w fun e w' => e = .returned (.int .u64 l) /\ w = w' := by
 have c2 := K.c2
 clear K
 go_enter func16, ntmps16
 exact aU
theorem aMz (K : gD w c q h l) : Calls prog 10 #[.pointer (some ⟨c, 0, none⟩)] w fun e w' => e = .returned (.int .i64 h) /\ w = w' := by
 have c1 := K.c1
 clear K
 go_enter func10, ntmps10
 exact aU
theorem aHc (K : gD w c q h l) : Calls prog 14 #[.pointer (some ⟨c, 0, none⟩)] w fun e w' => e = .returned (.tuple #[]) /\ w' = w.setCell ⟨c, 2, none⟩ (.int .u64 18446744073709551615) := by
 have f2 := aK K 2
 have c2 := K.c2
 have hl := K.lt
 clear K
 go_enter func14, ntmps14
 go_wp2_with fail
 go_end0
 exact ⟨rfl, rfl⟩
theorem yQ {B : Bp} {p : Pt} {gv : Value} (H : aT w q B p gv) (K : gD w c q h l) : Calls prog 17 #[.pointer (some ⟨c, 0, none⟩)] w fun e w' => e = .returned (.bool (oR p.x.ti B.n p.x.D h)) /\ Below w.heap.size w w' := by
 have c0 := K.c0
 have c1 := K.c1
 have hl := K.lt
 have hg := bC
 have HH := Hd H
 have HBd := Hd (fun w' h => pI q B p gv w' h)
 have HLn := Hd (fun w' (H : aT w' q B p gv) => aFN B p.x h w' H.bd)
 clear K H
 generalize oR p.x.ti B.n p.x.D h = bb at *
 go_enter func17, ntmps17
 go_upto_region 1 with (fail)
 refine wp_region_quiet_below (by kernel_rfl) (by kernel_rfl) ?_
 repeat (go_big_quiet_step (first
  | (go_at_call 20; exact Calls.regrown_of (HBd.out _ (HH.out.below (below_regrown w _ _))))
  | (go_at_call 45; exact Calls.regrown_of (HLn.out _ (HH.out.below (below_regrown w _ _))))))
 exact wZ
end
section
variable {w : World}
end
def aDN (q : Nat) (B : Bp) (p : Pt) (gv : Value) (c h : Nat) (l : Int) (w w' : World) : Prop := ∃ w1 l1, bA q B p gv w w1 /\ gD w1 c q h l1 /\ w' = w1.setCell ⟨c, 2, none⟩ (.int .u64 l)
def lP (d e : Int) : Int := if e = 0 then d else 18446744073709551615
theorem bA.sh {w w' : World} {q c h : Nat} {B : Bp} {p p0 : Pt} {gv gv0 : Value} {l : Int} (H : aT w q B p0 gv0) (L : bA q B p gv w w') (K : gD w c q h l) : gD w' c q h l := bA.kq H L c _ _ _ K (by decide) rfl
theorem aC7 (q c h m : Nat) (B : Bp) (p : Pt) (gv : Value) (l d : Int) (w : World) (H : aT w q B p gv) (K : gD w c q h l) (ok : p.ok m) (hm : m < 4294967200) (hn : h < B.n) (d0 : 0 <= d) (d1 : d < 18446744073709551616) :
 Calls prog 12 #[.pointer (some ⟨c, 0, none⟩), .int .u64 d] w fun e w' => e = .returned (.int .i64 (p.arm B.n B.c h d).e) /\ aDN q B (p.arm B.n B.c h d).p gv c h (lP d (p.arm B.n B.c h d).e) w w' := by
 have h8 := H.bd.ok.n8
 have ha := zG ok H.bd.ok H.bd.still (by omega) hn d0 d1
 have up := ha.up
 have HR := Hd (fun w' (H : aT w' q B p gv) => aO3 q h m B p gv d w' H ok hm hn d0 d1)
 rw [show stq q = .func (.func 30) #[.pointer (some ⟨q, 0, none⟩)] #[] from rfl] at HR
 have HT := Hd (fun w' => aP8 q h w' (by omega))
 have HH := Hd H
 have HK := Hd K
 have HKK := Hd (fun p' gv' w1 w' (H : aT w1 q B p gv) (K : gD w1 c q h l) (L : bA q B p' gv' w1 w') => bA.sh H L K)
 have c0 := K.c0
 have c1 := K.c1
 have hl := K.lt
 have hg := bC
 clear H K ok hm hn d0 d1 h8 ha
 generalize p.arm B.n B.c h d = r at *
 obtain ⟨rp, E⟩ := r
 simp only at up HR ⊢
 obtain ⟨L, hLA⟩ : ∃ L, lP d E = L := ⟨_, rfl⟩
 rw [hLA]
 have HLA := Hd hLA
 clear hLA
 go_enter func12, ntmps12
 go_upto_region 3 with (fail)
 refine cY 12 (by kernel_rfl) (by kernel_rfl) (by intro _ _ d _ _ h; cases d <;> exact h) ?_
 simp only [List.take_succ_cons, List.take_zero, List.drop_succ_cons, List.drop_zero]
 repeat (go_big_quiet_step (first
  | (go_at_call 32; exact Calls.regrown_of (HT.out _))))
 refine wpQuiet_nil ?_
 intro _ hw'
 obtain ⟨⟨dq, osq⟩, hw''⟩ := hw'
 subst hw''
 have hbr := below_regrown w dq osq
 have HB := Hd hbr
 have HH := Hd (HH.out.below hbr)
 have HK := Hd (HK.out.below hbr)
 clear hbr c0 c1 hl
 dsimp only at HH HK HB ⊢
 generalize grow (redrawn w dq) osq = W at *
 rcases up with rfl | rfl
 . go_upto_region 7 with (go_at_call 31; refine (HR.out _ HH.out).mono ?_; rintro e w1 ⟨rfl, hL⟩; have HL := Hd (bA.from (aF.ofBelow HB.out) hL); have HK1 := Hd (HKK.out _ _ _ _ HH.out HK.out hL); clear hL HR HKK)
   have f2 := aK HK1.out 2
   have c2 := HK1.out.c2
   have hl := HK1.out.lt
   go_wp2_with fail
   go_ret
   exact ⟨rfl, w1, l, HL.out, HK1.out, by rw [<- HLA.out]; unfold lP; rw [if_pos rfl]⟩
 . go_upto_region 5 with (go_at_call 31; refine (HR.out _ HH.out).mono ?_; rintro e w1 ⟨rfl, hL⟩; have HL := Hd (bA.from (aF.ofBelow HB.out) hL); have HK1 := Hd (HKK.out _ _ _ _ HH.out HK.out hL); clear hL HR HKK)
   go_wp2_with (go_at_call 14; refine (aHc HK1.out).mono ?_; rintro e w2 ⟨rfl, hw2⟩; have HW := Hd hw2; clear hw2)
   go_ret
   exact ⟨rfl, w1, l, HL.out, HK1.out, by rw [HW.out, <- HLA.out]; unfold lP; rw [if_neg (by decide)]⟩
theorem aBf (q c h m : Nat) (B : Bp) (p : Pt) (gv : Value) (l : Int) (w : World) (H : aT w q B p gv) (K : gD w c q h l) (ok : p.ok m) (hm : m < 4294967200) (hn : h < B.n) :
 Calls prog 11 #[.pointer (some ⟨c, 0, none⟩)] w fun e w' => e = .returned (.int .i64 (p.arm B.n B.c h 18446744073709551615).e) /\ aDN q B (p.arm B.n B.c h 18446744073709551615).p gv c h (lP 18446744073709551615 (p.arm B.n B.c h 18446744073709551615).e) w w' := by
 have HR := Hd (aC7 q c h m B p gv l 18446744073709551615 w H K ok hm hn (by decide) (by decide))
 clear H K ok hm hn
 generalize p.arm B.n B.c h 18446744073709551615 = r at *
 go_enter func11, ntmps11
 go_wp2_with fail
 refine (HR.out).mono ?_
 rintro e w1 ⟨rfl, hL⟩
 have HL := Hd hL
 clear hL
 go_wp2_with fail
 go_ret
 exact ⟨rfl, HL.out⟩
theorem iC : (prog.info? 29).map (·.size) = some 26 := by kernel_rfl
def dV (t : Int) (n : Nat) (A B S : Nat -> Int) : List Value := [.int .u64 t] ++ (il .u32 A 8 ++ (il .u32 B 8 ++ (il .u32 S 8 ++ [.int .i64 n])))
section
variable (t : Int) (n : Nat) (A B S : Nat -> Int)
theorem eJ : (dV t n A B S).length = 26 := by simp [dV, cJ]
theorem aDx : ∀ v ∈ dV t n A B S, v.oneCell' = true := by
 intro v h
 unfold dV at h
 simp only [List.mem_append, List.mem_cons, List.not_mem_nil, or_false] at h
 rcases h with rfl | h | h | h | rfl
 . rfl
 . exact uB _ _ _ v h
 . exact uB _ _ _ v h
 . exact uB _ _ _ v h
 . rfl
theorem aOp (i : Nat) (h : i < 8) : (dV t n A B S)[1 + i]? = some (.int .u32 (A i)) := by
 unfold dV; rw [eI _ _ 1 i (by rfl), mP _ _ _ (by rw [cJ]; exact h), pD _ _ _ _ h]
theorem aOo (i : Nat) (h : i < 8) : (dV t n A B S)[9 + i]? = some (.int .u32 (B i)) := by
 unfold dV; rw [show 9 + i = 1 + (8 + i) by omega, eI _ _ 1 _ (by rfl), eI _ _ 8 i (by rw [cJ]), mP _ _ _ (by rw [cJ]; exact h), pD _ _ _ _ h]
theorem aKe (i : Nat) (h : i < 8) : (dV t n A B S)[17 + i]? = some (.int .u32 (S i)) := by
 unfold dV; rw [show 17 + i = 1 + (8 + (8 + i)) by omega, eI _ _ 1 _ (by rfl), eI _ _ 8 _ (by rw [cJ]), eI _ _ 8 i (by rw [cJ]), mP _ _ _ (by rw [cJ]; exact h), pD _ _ _ _ h]
theorem aKd : (dV t n A B S)[25]? = some (.int .i64 n) := by
 unfold dV; rw [show 25 = 1 + (8 + (8 + (8 + 0))) by omega, eI _ _ 1 _ (by rfl), eI _ _ 8 _ (by rw [cJ]), eI _ _ 8 _ (by rw [cJ]), eI _ _ 8 _ (by rw [cJ])]; rfl
theorem aHK (v : Int) : (dV t n A B S).set 0 (.int .u64 v) = dV v n A B S := rfl
theorem aHI (i : Nat) (v : Int) (h : i < 8) : (dV t n A B S).set (1 + i) (.int .u32 v) = dV t n (upd A i v) B S := by
 unfold dV; rw [gI _ _ 1 i _ (by rfl), iA _ _ _ _ (by rw [cJ]; exact h), uC]
theorem aHH (i : Nat) (v : Int) (h : i < 8) : (dV t n A B S).set (9 + i) (.int .u32 v) = dV t n A (upd B i v) S := by
 unfold dV; rw [show 9 + i = 1 + (8 + i) by omega, gI _ _ 1 _ _ (by rfl), gI _ _ 8 i _ (by rw [cJ]), iA _ _ _ _ (by rw [cJ]; exact h), uC]
theorem aHJ (i : Nat) (v : Int) (h : i < 8) : (dV t n A B S).set (17 + i) (.int .u32 v) = dV t n A B (upd S i v) := by
 unfold dV; rw [show 17 + i = 1 + (8 + (8 + i)) by omega, gI _ _ 1 _ _ (by rfl), gI _ _ 8 _ _ (by rw [cJ]), gI _ _ 8 i _ (by rw [cJ]), iA _ _ _ _ (by rw [cJ]; exact h), uC]
end
theorem aEr {t : Int} {n : Nat} {A B S A' B' S' : Nat -> Int} (ha : ∀ i, i < 8 -> A i = A' i) (hb : ∀ i, i < 8 -> B i = B' i) (hs : ∀ i, i < 8 -> S i = S' i) : dV t n A B S = dV t n A' B' S' := by
 unfold dV; rw [mW _ _ _ _ ha, mW _ _ _ _ hb, mW _ _ _ _ hs]
def gC (t : Int) (n : Nat) (D S : Nat -> Int) : List Value := dV t n (fun i => lo (D i)) (fun i => hi (D i)) S
theorem fO (t : Int) (n : Nat) (D S : Nat -> Int) : (gC t n D S).length = 26 := eJ _ _ _ _ _
theorem aDw (t : Int) (n : Nat) (D S : Nat -> Int) : ∀ v ∈ gC t n D S, v.oneCell' = true := aDx _ _ _ _ _
def bK (w : World) (b : Nat) (t : Int) (n : Nat) (A B S : Nat -> Int) : Prop := w.heap[b]? = some (.cells (dV t n A B S).toArray 29 (0, 0))
section
variable {w w' : World} {b n : Nat} {t : Int} {A B S : Nat -> Int}
theorem bK.lt (h : bK w b t n A B S) : b < w.heap.size := lt_of_block h
theorem bK.below (h : bK w b t n A B S) (hb : Below w.heap.size w w') : bK w' b t n A B S := aC hb h h.lt
theorem bK.free (h : bK w b t n A B S) (j : Nat) : w.frozen? ⟨b, j, none⟩ = false := aK h j
theorem bK.cT (h : bK w b t n A B S) : w.cell? ⟨b, 0, none⟩ = some (.int .u64 t) := by rw [aA h 0]; rfl
theorem bK.cL (h : bK w b t n A B S) (i : Nat) (hi : i < 8) : w.cell? ⟨b, 1 + i, none⟩ = some (.int .u32 (A i)) := by rw [aA h (1 + i), y0q]; exact aOp _ _ _ _ _ _ hi
theorem bK.cH (h : bK w b t n A B S) (i : Nat) (hi : i < 8) : w.cell? ⟨b, 9 + i, none⟩ = some (.int .u32 (B i)) := by rw [aA h (9 + i), y0q]; exact aOo _ _ _ _ _ _ hi
theorem bK.cS (h : bK w b t n A B S) (i : Nat) (hi : i < 8) : w.cell? ⟨b, 17 + i, none⟩ = some (.int .u32 (S i)) := by rw [aA h (17 + i), y0q]; exact aKe _ _ _ _ _ _ hi
theorem bK.cN (h : bK w b t n A B S) : w.cell? ⟨b, 25, none⟩ = some (.int .i64 n) := by rw [aA h 25, y0q]; exact aKd _ _ _ _ _
theorem bK.set {t' : Int} {A' B' S' : Nat -> Int} (h : bK w b t n A B S) (j : Nat) (v : Value) (he : (dV t n A B S).set j v = dV t' n A' B' S') : bK (w.setCell ⟨b, j, none⟩ v) b t' n A' B' S' := by
 unfold bK; rw [aR h, <- he]; simp
theorem bK.setT (h : bK w b t n A B S) (v : Int) : bK (w.setCell ⟨b, 0, none⟩ (.int .u64 v)) b v n A B S := h.set _ _ (aHK _ _ _ _ _ _)
theorem bK.setL (h : bK w b t n A B S) (i : Nat) (v : Int) (hi : i < 8) : bK (w.setCell ⟨b, 1 + i, none⟩ (.int .u32 v)) b t n (upd A i v) B S := h.set _ _ (aHI _ _ _ _ _ _ _ hi)
theorem bK.setH (h : bK w b t n A B S) (i : Nat) (v : Int) (hi : i < 8) : bK (w.setCell ⟨b, 9 + i, none⟩ (.int .u32 v)) b t n A (upd B i v) S := h.set _ _ (aHH _ _ _ _ _ _ _ hi)
theorem bK.setS (h : bK w b t n A B S) (i : Nat) (v : Int) (hi : i < 8) : bK (w.setCell ⟨b, 17 + i, none⟩ (.int .u32 v)) b t n A B (upd S i v) := h.set _ _ (aHJ _ _ _ _ _ _ _ hi)
theorem bK.other (h : bK w b t n A B S) (k j : Nat) (v : Value) (hne : b ≠ k) : bK (w.setCell ⟨k, j, none⟩ v) b t n A B S := aV h k j v hne
end
section
variable {ops : Array Oper} {rest : List Oper} {o : Oper} {a : Act} {w : World} {Q : Exit -> Act -> World -> Prop}
theorem mG (hgd : o.guard = none) (x : Operand) (ho : o.op = .load 29 x) {b : Nat} (hx : a.eval x = .pointer (some ⟨b, 0, none⟩)) {t : Int} {n : Nat} {A B S : Nat -> Int} (hg : bK w b t n A B S)
 (h : wpList prog ops Q rest (a.put o.dst (.agg (dV t n A B S).toArray)) w) : wpList prog ops Q (o :: rest) a w :=
 aN hgd _ x ho b 0 hx _ (dV t n A B S) hg underlying29 rfl (by rw [eJ]; exact iC) (aL _) h
theorem nF (hgd : o.guard = none) (x y : Operand) (ho : o.op = .store 29 x y) {b : Nat} (hx : a.eval x = .pointer (some ⟨b, 0, none⟩)) {t : Int} {n : Nat} {A B S : Nat -> Int} (hy : a.eval y = .agg (dV t n A B S).toArray) {cs : Array Value} {ty : TypeId}
 (hg : w.heap[b]? = some (.cells cs ty (0, 0))) (hl : cs.size = 26)
 (h : wpList prog ops Q rest (a.put o.dst undef) (w.setRow b (dV t n A B S).toArray)) : wpList prog ops Q (o :: rest) a w := by
 refine aJ hgd _ x y ho b 0 hx (dV t n A B S) hy hg (by rw [eJ]; exact iC) (by rw [eJ]; omega) (aDx _ _ _ _ _) ?_
 rw [aW _ _ (by rw [eJ, hl])]
 exact h
theorem aMd {C : World -> Prop} {K : Act -> Prop} (x : Operand) (ho : o.op = .load 29 x) {b : Nat} (hx : a.eval x = .pointer (some ⟨b, 0, none⟩)) {t : Int} {n : Nat} {A B S : Nat -> Int} (hg : ∀ w, C w -> bK w b t n A B S)
 (h : K (a.put o.dst (.agg (dV t n A B S).toArray))) : o.quiet prog a C K :=
 bD _ x ho b 0 hx _ (dV t n A B S) (fun w hw => hg w hw) underlying29 rfl (by rw [eJ]; exact iC) (aL _) h
end
theorem bK.row {w : World} {b : Nat} {cs : Array Value} {t : Int} {n : Nat} {A B S : Nat -> Int} (hg : w.heap[b]? = some (.cells cs 29 (0, 0))) : bK (w.setRow b (dV t n A B S).toArray) b t n A B S := aY _ hg
theorem aMm {fn : Func} {p : Tmp} (h : fn.results = #[.cell p 29]) (tmps : Array Value) (w : World) {b : Nat} {t : Int} {n : Nat} {A B S : Nat -> Int} (hp : tmps[p]? = some (.pointer (some ⟨b, 0, none⟩))) (hg : bK w b t n A B S) :
 (results fn tmps).run prog w = .ok (.agg (dV t n A B S).toArray) w :=
 aS h tmps w b 0 _ (dV t n A B S) hp hg underlying29 rfl (by rw [eJ]; exact iC) (aL _)
theorem aBW {fn : Func} {p q : Tmp} (h : fn.results = #[.cell p 29, .tmp q]) (tmps : Array Value) (w : World) {b : Nat} {t : Int} {n : Nat} {A B S : Nat -> Int} (y : Value) (hp : tmps[p]? = some (.pointer (some ⟨b, 0, none⟩))) (hq : tmps[q]? = some y) (hg : bK w b t n A B S) :
 (results fn tmps).run prog w = .ok (.tuple #[.agg (dV t n A B S).toArray, y]) w :=
 bE h tmps w b 0 _ (dV t n A B S) y hp hq hg underlying29 rfl (by rw [eJ]; exact iC) (aL _)
end Go.Proofs.YtaohacadochldaaGreat.B
