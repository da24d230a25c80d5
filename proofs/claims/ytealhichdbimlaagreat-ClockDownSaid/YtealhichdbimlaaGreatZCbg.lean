/- A part of the proof of a law of layer 12: bg. -/
import Derived.Test.YtealhichdbimlaaGreatZCbf
set_option linter.unusedVariables false
set_option linter.unusedSimpArgs false
set_option maxHeartbeats 12800000
set_option maxRecDepth 100000
namespace Go.Proofs.YtealhichdbimlaaGreat.B
open Go.Proofs.Tryz
open Go.ChangeShapes Go.WideShapes Go.RowKit Go.Sort
theorem i27 : (prog.info? 140).map (·.size) = some 64 := by kernel_rfl
def dS (f g : Nat -> Bool) : List Value := bl f 32 ++ bl g 32
theorem dD (f g : Nat -> Bool) : (dS f g).length = 64 := by unfold dS; simp [bI]
theorem aIm (f g : Nat -> Bool) : ∀ v ∈ dS f g, v.oneCell' = true := by
 intro v h
 unfold dS at h
 rcases List.mem_append.1 h with h | h
 . exact rB _ _ v h
 . exact rB _ _ v h
theorem aGQ (f g : Nat -> Bool) (i : Nat) (h : i < 32) : (dS f g)[i]? = some (.bool (f i)) := by
 unfold dS; rw [List.getElem?_append_left (by rw [bI]; exact h), rA _ _ _ h]
theorem aEe (f g : Nat -> Bool) (i : Nat) (h : i < 32) : (dS f g)[32 + i]? = some (.bool (g i)) := by
 unfold dS; rw [List.getElem?_append_right (by rw [bI]; omega), bI, show 32 + i - 32 = i by omega, rA _ _ _ h]
theorem xY (f g : Nat -> Bool) : eP (dS f g).toArray 0 (bl f 32) := nX _ _
theorem rF (f g : Nat -> Bool) : eP (dS f g).toArray 32 (bl g 32) := aCs _ _ 32 (bI f 32)
theorem aA5 (f g h : Nat -> Bool) : bP (dS f g).toArray 32 (bl h 32) = (dS f h).toArray := vJ _ _ _ 32 (bI f 32) (by rw [bI, bI])
section
variable {ops : Array Oper} {rest : List Oper} {o : Oper} {a : Act} {w : World} {Q : Exit -> Act -> World -> Prop}
theorem mQ (hgd : o.guard = none) (x : Operand) (ho : o.op = .load 140 x) (b : Nat) (hx : a.eval x = .pointer (some ⟨b, 0, none⟩)) {t : TypeId} {fr : Nat × Nat} (f g : Nat -> Bool) (hg : w.heap[b]? = some (.cells (dS f g).toArray t fr))
 (h : wpList prog ops Q rest (a.put o.dst (.agg (dS f g).toArray)) w) : wpList prog ops Q (o :: rest) a w :=
 aM hgd _ x ho b 0 hx _ (dS f g) hg underlying140 rfl (by rw [dD]; exact i27) (aL _) h
theorem jS (hgd : o.guard = none) (x y : Operand) (ho : o.op = .store 140 x y) (b : Nat) (hx : a.eval x = .pointer (some ⟨b, 0, none⟩)) (f g : Nat -> Bool) (hy : a.eval y = .agg (dS f g).toArray) {t : TypeId} {cs : Array Value} (hg : w.heap[b]? = some (.cells cs t (0, 0))) (hl : cs.size = 64)
 (h : wpList prog ops Q rest (a.put o.dst undef) (w.setRow b (dS f g).toArray)) : wpList prog ops Q (o :: rest) a w :=
 aJ hgd _ x y ho b 0 hx (dS f g) hy hg (by rw [dD]; exact i27) (by rw [dD]; omega) (aIm _ _) (by rw [aX _ _ (by rw [dD]; exact hl)]; exact h)
theorem aI5 {C : World -> Prop} {K : Act -> Prop} (x : Operand) (ho : o.op = .load 140 x) (b : Nat) (hx : a.eval x = .pointer (some ⟨b, 0, none⟩)) {t : TypeId} {fr : Nat × Nat} (f g : Nat -> Bool) (hg : ∀ w, C w -> w.heap[b]? = some (.cells (dS f g).toArray t fr))
 (h : K (a.put o.dst (.agg (dS f g).toArray))) : o.quiet prog a C K :=
 bF _ x ho b 0 hx _ (dS f g) hg underlying140 rfl (by rw [dD]; exact i27) (aL _) h
end
theorem rE {w : World} {b : Nat} {f g : Nat -> Bool} {t : TypeId} {fr : Nat × Nat} (h : w.heap[b]? = some (.cells (dS f g).toArray t fr)) (k : Nat) (hk : k < 32) : w.cell? ⟨b, k, none⟩ = some (.bool (f k)) := by
 rw [cell_of_row w b k _ t fr h]; simpa using aGQ f g k hk
theorem xX {w : World} {b : Nat} {f g : Nat -> Bool} {t : TypeId} {fr : Nat × Nat} (h : w.heap[b]? = some (.cells (dS f g).toArray t fr)) (k : Nat) (hk : k < 32) : w.cell? ⟨b, 32 + k, none⟩ = some (.bool (g k)) := by
 rw [cell_of_row w b (32 + k) _ t fr h]; simpa using aEe f g k hk
abbrev tL4 : TypeId := 140
def rX (w : World) (b : Nat) (f g : Nat -> Bool) : Prop := w.heap[b]? = some (.cells (dS f g).toArray tL4 (0, 0))
theorem rX.congr {w : World} {b : Nat} {f g f' : Nat -> Bool} (h : rX w b f g) (hf : ∀ i, i < 32 -> f i = f' i) : rX w b f' g := by
 unfold rX dS at *
 rw [kD f' f 32 fun i hi => (hf i hi).symm]; exact h
theorem rX.lt {w : World} {b : Nat} {f g : Nat -> Bool} (h : rX w b f g) : b < w.heap.size := lt_of_block h
theorem rX.free {w : World} {b : Nat} {f g : Nat -> Bool} (h : rX w b f g) (j : Nat) : w.frozen? ⟨b, j, none⟩ = false := aN h j
theorem rX.below {w w' : World} {b : Nat} {f g : Nat -> Bool} (h : rX w b f g) (hb : Below w.heap.size w w') : rX w' b f g := aC hb h h.lt
theorem aGR (f g : Nat -> Bool) (k : Nat) (B : Bool) (hk : k < 32) : (dS f g).toArray.setIfInBounds k (.bool B) = (dS (fun i => if i = k then B else f i) g).toArray := by
 rw [gD]
 unfold dS
 rw [List.set_append_left _ _ (by rw [bI]; exact hk), aCH]
theorem rX.put {w : World} {b : Nat} {f g : Nat -> Bool} (h : rX w b f g) (k : Nat) (B : Bool) (hk : k < 32) : rX (w.setCell ⟨b, k, none⟩ (.bool B)) b (fun i => if i = k then B else f i) g := by
 unfold rX
 rw [aR h, aGR f g k B hk]
theorem rX.cell {w : World} {b : Nat} {f g : Nat -> Bool} (h : rX w b f g) (k : Nat) (hk : k < 32) : w.cell? ⟨b, k, none⟩ = some (.bool (f k)) := rE h k hk
def qF : Obj := .cells (dS (aO 0) (aO 0)).toArray tL4 (0, 0)
theorem aAT : Obj.cells #[.bool false, .bool false, .bool false, .bool false, .bool false, .bool false, .bool false, .bool false, .bool false, .bool false, .bool false, .bool false, .bool false, .bool false, .bool false, .bool false, .bool false, .bool false, .bool false, .bool false, .bool false, .bool false, .bool false, .bool false, .bool false, .bool false, .bool false, .bool false, .bool false, .bool false, .bool false, .bool false, .bool false, .bool false, .bool false, .bool false, .bool false, .bool false, .bool false, .bool false, .bool false, .bool false, .bool false, .bool false, .bool false, .bool false, .bool false, .bool false, .bool false, .bool false, .bool false, .bool false, .bool false, .bool false, .bool false, .bool false, .bool false, .bool false, .bool false, .bool false, .bool false, .bool false, .bool false, .bool false] 140 (0, 0) = qF := by
 unfold qF
 rw [show dS (aO 0) (aO 0) = dS (fun _ => false) (fun _ => false) by unfold dS; rw [kD (aO 0) (fun _ => false) 32 fun i _ => lA i]]
 rfl
structure oJ (w0 w : World) (p r q n : Nat) (x : Bx) (bk ev : Value) (f g : Nat -> Bool) : Prop where
 h : eO w p n x bk ev
 z : rX w r (aO 0) (aO 0)
 l : rX w q f g
 lo : Below w0.heap.size w0 w
 sp : w0.heap.size <= p
 pr : p < r
 rq : r < q
section
variable {w0 w w' : World} {p r q n c : Nat} {x : Bx} {bk ev : Value} {f g : Nat -> Bool}
theorem oJ.below (L : oJ w0 w p r q n x bk ev f g) (hb : Below w.heap.size w w') : oJ w0 w' p r q n x bk ev f g :=
 ⟨L.h.below hb, L.z.below hb, L.l.below hb, tr L.lo hb, L.sp, L.pr, L.rq⟩
theorem oJ.put (L : oJ w0 w p r q n x bk ev f g) (k : Nat) (B : Bool) (hk : k < 32) : oJ w0 (w.setCell ⟨q, k, none⟩ (.bool B)) p r q n x bk ev (fun i => if i = k then B else f i) g := by
 have h1 := L.pr
 have h2 := L.rq
 have h3 := L.sp
 exact ⟨aW L.h _ _ _ (by omega), aW L.z _ _ _ (by omega), L.l.put k B hk, aF.toBelow L.lo (aH w q k _) (fun j hj e => by omega) (Nat.le_refl _), h3, h1, h2⟩
theorem oJ.congr {f' : Nat -> Bool} (L : oJ w0 w p r q n x bk ev f g) (hf : ∀ i, i < 32 -> f i = f' i) : oJ w0 w p r q n x bk ev f' g := ⟨L.h, L.z, L.l.congr hf, L.lo, L.sp, L.pr, L.rq⟩
theorem oJ.mask (L : oJ w0 w p r q n x bk ev f g) (m : Int) : oJ w0 (w.setRow q (dS f (aO m)).toArray) p r q n x bk ev f (aO m) := by
 have h1 := L.pr
 have h2 := L.rq
 have h3 := L.sp
 exact ⟨eJ q _ L.h (by omega), eJ q _ L.z (by omega), aZ _ L.l, aB L.lo _ (by omega), h3, h1, h2⟩
theorem aMB (w : World) (n : Nat) (x : Bx) (bk ev : Value) : oJ w (((w.alloc (bT n x bk ev)).alloc qF).alloc qF) w.heap.size (w.heap.size + 1) (w.heap.size + 1 + 1) n x bk ev (aO 0) (aO 0) := by
 have hs : ((w.alloc (bT n x bk ev)).alloc qF).heap.size = w.heap.size + 1 + 1 := by simp
 have h0 := bN w (bT n x bk ev) qF
 have h1 := bS w (bT n x bk ev) qF
 refine ⟨(aY _ _ (by omega)).trans h0, (aY _ _ (by omega)).trans h1, ?_, aE (aE (aE (aI w) _) _) _, Nat.le_refl _, by omega, by omega⟩
 have := aD ((w.alloc (bT n x bk ev)).alloc qF) qF
 rw [hs] at this
 exact this
end
def fA (x : Bx) (k i : Nat) : Bool := if i < 8 then decide (i < k) && decide (x.D i <= x.ti) else if i < 24 then false else decide (i - 24 < k) && (x.S (i - 24) == 1)
def fB (n : Nat) (x : Bx) (k i : Nat) : Bool := if i < 8 then fA x n i else if i < 16 then decide (i - 8 < k) && ((x.tm (i - 8)).st && (x.tm (i - 8)).iq) else fA x n i
theorem aIb (x : Bx) (i : Nat) : aO 0 i = fA x 0 i := by
 rw [lA]
 unfold fA
 split
 . rw [decide_eq_false (by omega)]; rfl
 . split
   . rfl
   . rw [decide_eq_false (by omega)]; rfl
theorem aIa (x : Bx) (k : Nat) (hk : k < 8) (i : Nat) (hi : i < 32) : (if i = 24 + k then (x.S k == 1) else if i = k then decide (x.D k <= x.ti) else fA x k i) = fA x (k + 1) i := by
 unfold fA
 by_cases h1 : i = 24 + k
 . subst h1
   rw [if_pos rfl, if_neg (by omega), if_neg (by omega), Nat.add_sub_cancel_left, decide_eq_true (by omega), Bool.true_and]
 . rw [if_neg h1]
   by_cases h2 : i = k
   . subst h2
     rw [if_pos rfl, if_pos hk, show decide (i < i + 1) = true from decide_eq_true (by omega), Bool.true_and]
   . rw [if_neg h2]
     by_cases h3 : i < 8
     . rw [if_pos h3, if_pos h3, show decide (i < k) = decide (i < k + 1) from decide_eq_decide.2 (by omega)]
     . rw [if_neg h3, if_neg h3]
       by_cases h4 : i < 24
       . rw [if_pos h4, if_pos h4]
       . rw [if_neg h4, if_neg h4, show decide (i - 24 < k) = decide (i - 24 < k + 1) from decide_eq_decide.2 (by omega)]
theorem aId (n : Nat) (x : Bx) (i : Nat) : fA x n i = fB n x 0 i := by
 unfold fB
 split
 . rfl
 . split
   . unfold fA
     rw [if_neg (by omega), if_pos (by omega), decide_eq_false (by omega)]; rfl
   . rfl
theorem aIc (n : Nat) (x : Bx) (k : Nat) (hk : k < 8) (i : Nat) : (if i = 8 + k then ((x.tm k).st && (x.tm k).iq) else fB n x k i) = fB n x (k + 1) i := by
 unfold fB
 by_cases h1 : i = 8 + k
 . subst h1
   rw [if_pos rfl, if_neg (by omega), if_pos (by omega), Nat.add_sub_cancel_left, decide_eq_true (by omega), Bool.true_and]
 . rw [if_neg h1]
   by_cases h3 : i < 8
   . rw [if_pos h3, if_pos h3]
   . rw [if_neg h3, if_neg h3]
     by_cases h4 : i < 16
     . rw [if_pos h4, if_pos h4, show decide (i - 8 < k) = decide (i - 8 < k + 1) from decide_eq_decide.2 (by omega)]
     . rw [if_neg h4, if_neg h4]
theorem aLn (n c : Nat) (x : Bx) (i : Nat) (hi : i < 32) : (if i = 16 then x.rk.st else fB n x c i) = fH n c x i := by
 unfold fB fA fH
 by_cases h1 : i < 8
 . rw [if_neg (by omega), if_pos h1, if_pos h1, if_pos h1]
 . rw [if_neg h1, if_neg h1, if_neg h1]
   by_cases h2 : i < 16
   . rw [if_neg (by omega), if_pos h2, if_pos h2]
   . rw [if_neg h2, if_neg h2]
theorem aIn (t : Int) (D : Nat -> Int) (n k : Nat) (h : k < n) : zB t n D (k : Int) = decide (D k <= t) := by
 exact wI
theorem aAS (n c : Nat) (x : Bx) (bk ev : Value) (w : World) (M : MV w c x bk ev) (ok : x.ok n c) :
 Calls prog 73 #[.agg (ml n x bk ev).toArray] w fun e w' => e = .returned (.agg (dS (fH n c x) (aO x.msk)).toArray) /\ Below w.heap.size w w' := by
 have HOK := Hd ok
 obtain ⟨gk, capk, rfl, hrk⟩ := M.k
 have HM := Hd M
 have HR := Hd hrk
 clear M hrk ok
 go_enter func73, ntmps73
 go_upto_region 2 with (fail)
 rw [bZ, aAT]
 have hL := (aMB w n x (.slice (some ⟨gk, 0, none⟩) c capk) ev).congr (fun i _ => aIb x i)
 have hM := HM.out.below (aE (aE (aE (aI w) (bT n x (.slice (some ⟨gk, 0, none⟩) c capk) ev)) qF) qF)
 have HR := Hd hM.row
 clear HM
 generalize (((w.alloc (bT n x (.slice (some ⟨gk, 0, none⟩) c capk) ev)).alloc qF).alloc qF) = W at *
 generalize w.heap.size + 1 + 1 = q at *
 generalize w.heap.size + 1 = r at *
 generalize hpn : w.heap.size = p at *
 clear hM hpn
 have HG := Hd hL
 have HOD := Hd (fun v => aHF v x.ti n x.D x.S)
 have hn8 := HOK.out.n8
 have hc8 := HOK.out.c8
 clear hL
 go_upto_region 3 with (fail)
 go_loopw [4] (fun i wr => ∃ k : Nat, k <= n /\ i = .int .i64 k /\ oJ w wr p r q n x (.slice (some ⟨gk, 0, none⟩) c capk) ev (fA x k) (aO 0) /\ dW wr gk c capk x.tm) (fun i _ => n - (intOf i).toNat)
 case atStart => exact ⟨0, by omega, rfl, HG.out, HR.out⟩
 case round =>
  obtain ⟨k, hk, rfl, hL, hR⟩ := hrel
  have HG := Hd hL
  have HR := Hd hR
  have cN := hL.h.cN
  clear hL hR
  by_cases hlt : k < n
  . have hk8 : k < 8 := by omega
    have cS := HG.out.h.cS k hk8
    have hidx : (0 : Int) <= (k : Int) /\ (k : Int) < 32 := by omega
    go_upto_region 6 with (first | (refine oZ rfl (.tmp 14) rfl rfl HG.out.h ?_) | (go_at_call 82; refine (HOD.out (k : Int) _ hn8 HOK.out.d).mono ?_; rintro e w5 ⟨rfl, b5⟩; rw [aIn x.ti x.D n k hlt]; have HG := Hd (HG.out.below b5); have HR := Hd (HR.out.below b5); clear b5 cN cS; have cQ := HG.out.l.cell k (by omega); have fQ := HG.out.l.free k; have lQ := HG.out.l.lt))
    clear cQ fQ lQ
    have hL6 := HG.out.put k (decide (x.D k <= x.ti)) (by omega)
    have hR6 := HR.out.off (aH w5 q k (.bool (decide (x.D k <= x.ti)))) (HR.out.ne HG.out.l rfl)
    generalize w5.setCell ⟨q, k, none⟩ (.bool (decide (x.D k <= x.ti))) = w6 at *
    have HG := Hd hL6
    have HR := Hd hR6
    have cS := HG.out.h.cS k hk8
    have cQ := HG.out.l.cell (24 + k) (by omega)
    have fQ := HG.out.l.free (24 + k)
    have lQ := HG.out.l.lt
    clear hL6 hR6
    go_upto_region 4 with (fail)
    clear cQ fQ lQ cS
    have hL7 := (HG.out.put (24 + k) (x.S k == 1) (by omega)).congr (fun i hi => aIa x k hk8 i hi)
    have hR7 := HR.out.off (aH w6 q (24 + k) (.bool (x.S k == 1))) (HR.out.ne HG.out.l rfl)
    generalize w6.setCell ⟨q, 24 + k, none⟩ (.bool (x.S k == 1)) = w7 at *
    have HG := Hd hL7
    have HR := Hd hR7
    clear hL7 hR7
    go_wp2_with fail
    go_roundw
    case rel => exact ⟨k + 1, by omega, by go_num, HG.out, HR.out⟩
    case measure => simp [intOf]; omega
  . have hkn : k = n := by omega
    subst hkn
    have HG := Hd (HG.out.congr fun i _ => aId k x i)
    go_upto_region 8 with (fail)
    go_loopw [5] (fun j wr => ∃ i : Nat, i <= c /\ j = .int .i64 i /\ oJ w wr p r q k x (.slice (some ⟨gk, 0, none⟩) c capk) ev (fB k x i) (aO 0) /\ dW wr gk c capk x.tm) (fun j _ => c - (intOf j).toNat)
    case atStart => exact ⟨0, by omega, rfl, HG.out, HR.out⟩
    case round =>
     obtain ⟨i, hi, rfl, hL, hR⟩ := hrel
     have HG := Hd hL
     have HR := Hd hR
     have cB := hL.h.cB
     clear hL hR cN
     by_cases hlt : i < c
     . have hi8 : i < 8 := by omega
       have c4 := HR.out.c hlt 4 _ rfl
       have c7 := HR.out.c hlt 7 _ rfl
       have cQ := HG.out.l.cell (8 + i) (by omega)
       have fQ := HG.out.l.free (8 + i)
       have lQ := HG.out.l.lt
       have HNX := Hd (aIc k x i hi8)
       generalize (x.tm i).st = st at *
       generalize (x.tm i).iq = iq at *
       cases st <;> cases iq
       . go_upto_region 9 with (fail)
         have hL8 := (HG.out.put (8 + i) false (by omega)).congr (fun j _ => HNX.out j)
         have hR8 := HR.out.off (aH wr q (8 + i) (.bool false)) (HR.out.ne HG.out.l rfl)
         generalize wr.setCell ⟨q, 8 + i, none⟩ (.bool false) = w8 at *
         clear cQ fQ lQ c4 c7 cB
         have HG := Hd hL8
         have HR := Hd hR8
         clear hL8 hR8
         go_wp2_with fail
         go_roundw
         case rel => exact ⟨i + 1, by omega, by go_num, HG.out, HR.out⟩
         case measure => simp [intOf]; omega
       . go_upto_region 9 with (fail)
         have hL8 := (HG.out.put (8 + i) false (by omega)).congr (fun j _ => HNX.out j)
         have hR8 := HR.out.off (aH wr q (8 + i) (.bool false)) (HR.out.ne HG.out.l rfl)
         generalize wr.setCell ⟨q, 8 + i, none⟩ (.bool false) = w8 at *
         clear cQ fQ lQ c4 c7 cB
         have HG := Hd hL8
         have HR := Hd hR8
         clear hL8 hR8
         go_wp2_with fail
         go_roundw
         case rel => exact ⟨i + 1, by omega, by go_num, HG.out, HR.out⟩
         case measure => simp [intOf]; omega
       . go_upto_region 9 with (fail)
         have hL8 := (HG.out.put (8 + i) false (by omega)).congr (fun j _ => HNX.out j)
         have hR8 := HR.out.off (aH wr q (8 + i) (.bool false)) (HR.out.ne HG.out.l rfl)
         generalize wr.setCell ⟨q, 8 + i, none⟩ (.bool false) = w8 at *
         clear cQ fQ lQ c4 c7 cB
         have HG := Hd hL8
         have HR := Hd hR8
         clear hL8 hR8
         go_wp2_with fail
         go_roundw
         case rel => exact ⟨i + 1, by omega, by go_num, HG.out, HR.out⟩
         case measure => simp [intOf]; omega
       . go_upto_region 9 with (fail)
         have hL8 := (HG.out.put (8 + i) true (by omega)).congr (fun j _ => HNX.out j)
         have hR8 := HR.out.off (aH wr q (8 + i) (.bool true)) (HR.out.ne HG.out.l rfl)
         generalize wr.setCell ⟨q, 8 + i, none⟩ (.bool true) = w8 at *
         clear cQ fQ lQ c4 c7 cB
         have HG := Hd hL8
         have HR := Hd hR8
         clear hL8 hR8
         go_wp2_with fail
         go_roundw
         case rel => exact ⟨i + 1, by omega, by go_num, HG.out, HR.out⟩
         case measure => simp [intOf]; omega
     . have hic : i = c := by omega
       subst hic
       have cR := HG.out.h.cR
       have cQ := HG.out.l.cell 16 (by omega)
       have fQ := HG.out.l.free 16
       have lQ := HG.out.l.lt
       go_upto_region 12 with (fail)
       clear cQ fQ lQ cR cB
       have hL9 := (HG.out.put 16 x.rk.st (by omega)).congr (fun j hj => aLn k i x j hj)
       generalize wr.setCell ⟨q, 16, none⟩ (.bool x.rk.st) = w9 at *
       have HG := Hd hL9
       clear hL9 HR
       go_wp2_with (first | (refine aMO rfl (.tmp 60) rfl rfl HG.out.h ?_) | (refine sS rfl (.tmp 62) (.tmp 61) rfl _ _ rfl (aO x.msk) rfl HG.out.l (by simp [dD]) ?_; rw [aA5]; have HG2 := Hd (HG.out.mask x.msk); generalize w9.setRow q (dS (fH k i x) (aO x.msk)).toArray = w10 at *) | (refine mQ rfl (.tmp 3) rfl _ rfl _ _ HG2.out.l ?_) | (refine jS rfl (.tmp 2) (.tmp 63) rfl _ rfl _ _ rfl HG2.out.z (by simp [dD]) ?_))
       refine bodyPost_ret (v := .agg (dS (fH k i x) (aO x.msk)).toArray) ?_ rfl ⟨rfl, aB HG2.out.lo _ (by have := HG2.out.sp; have := HG2.out.pr; omega)⟩
       exact aU results73 _ _ r 0 _ (dS (fH k i x) (aO x.msk)) rfl (aZ _ HG2.out.z) underlying140 rfl (by rw [dD]; exact i27) (aL _)
def bsN (k : Nat) : Int := if k = 0 then 33554432 else if k = 1 then 268500992 else if k = 2 then 268566528 else if k = 3 then 268632064 else if k = 4 then 268697600 else 268763136
def zsN (k : Nat) : Int := if k = 0 then 49152 else if k = 1 then 256 else if k = 2 then 20 else if k = 3 then 16 else if k = 4 then 36 else 12
def fI (a : Int) : Int × Int × Bool := match wh a with
 | .odd => (0, 0, false) | .no => (0, 0, false) | .cl o => (0, o, true) | .bk o => (1, o, true) | .dg o => (2, o, true) | .rs o => (3, o, true) | .rk o => (4, o, true) | .ln o => (5, o, true)
theorem six {k : Nat} (h : k < 6) : k = 0 \/ k = 1 \/ k = 2 \/ k = 3 \/ k = 4 \/ k = 5 := by omega
theorem aEK (k : Nat) : 0 <= bsN k /\ bsN k + zsN k < 4294967296 /\ 0 < zsN k /\ bsN k < 4294967296 /\ zsN k < 4294967296 := by
 unfold bsN zsN
 repeat' split
 all_goals omega
theorem aLp (a : Int) (h4 : a % 4 = 0) (k : Nat) (hk : k < 6) (h0 : bsN k <= a) (h1 : a - bsN k < zsN k) : fI a = ((k : Int), a - bsN k, true) := by
 unfold fI
 rcases six hk with rfl | rfl | rfl | rfl | rfl | rfl <;> simp only [bsN, zsN] at * <;> rcases pB a with ⟨g, e⟩ | ⟨g4, g0, g1, e⟩ | ⟨g4, g0, g1, e⟩ | ⟨g4, g0, g1, e⟩ | ⟨g4, g0, g1, e⟩ | ⟨g4, g0, g1, e⟩ | ⟨g4, g0, g1, e⟩ | ⟨g4, g, e⟩ <;> first | (rw [e]; rfl) | (exfalso; simp at h0 h1; omega)
theorem aOE (a : Int) (h4 : a % 4 = 0) (h : ∀ k, k < 6 -> ¬ (bsN k <= a /\ a - bsN k < zsN k)) : fI a = (0, 0, false) := by
 have h0 := h 0 (by decide)
 have h1 := h 1 (by decide)
 have h2 := h 2 (by decide)
 have h3 := h 3 (by decide)
 have h5 := h 4 (by decide)
 have h6 := h 5 (by decide)
 simp [bsN, zsN] at h0 h1 h2 h3 h5 h6
 unfold fI
 rcases pB a with ⟨g, e⟩ | ⟨g4, g0, g1, e⟩ | ⟨g4, g0, g1, e⟩ | ⟨g4, g0, g1, e⟩ | ⟨g4, g0, g1, e⟩ | ⟨g4, g0, g1, e⟩ | ⟨g4, g0, g1, e⟩ | ⟨g4, g, e⟩ <;> first | (rw [e]; done) | (exfalso; omega)
theorem aFR (k : Nat) (hk : k < 6) : (#[.int .u32 33554432, .int .u32 268500992, .int .u32 268566528, .int .u32 268632064, .int .u32 268697600, .int .u32 268763136] : Array Value)[k]? = some (.int .u32 (bsN k)) := by
 rcases six hk with rfl | rfl | rfl | rfl | rfl | rfl <;> rfl
theorem aNV (k : Nat) (hk : k < 6) : (#[.int .u32 49152, .int .u32 256, .int .u32 20, .int .u32 16, .int .u32 36, .int .u32 12] : Array Value)[k]? = some (.int .u32 (zsN k)) := by
 rcases six hk with rfl | rfl | rfl | rfl | rfl | rfl <;> rfl
def oBs : Obj := .cells #[.int .u32 33554432, .int .u32 268500992, .int .u32 268566528, .int .u32 268632064, .int .u32 268697600, .int .u32 268763136] 27 (0, 0)
def oZs : Obj := .cells #[.int .u32 49152, .int .u32 256, .int .u32 20, .int .u32 16, .int .u32 36, .int .u32 12] 27 (0, 0)
theorem aMS : Obj.cells #[.int .u32 33554432, .int .u32 268500992, .int .u32 268566528, .int .u32 268632064, .int .u32 268697600, .int .u32 268763136] 27 (0, 0) = oBs := rfl
theorem aMT : Obj.cells #[.int .u32 49152, .int .u32 256, .int .u32 20, .int .u32 16, .int .u32 36, .int .u32 12] 27 (0, 0) = oZs := rfl
theorem eN {p : Nat} {a b c : World} (e : a.heap.size = p) (h : Below p a b) (k : Below b.heap.size b c) : Below p a c := by subst e; exact tr h k
theorem jJ (a : Int) (w : World) (a0 : 0 <= a) (a1 : a < 4294967296) (h4 : a % 4 = 0) :
 Calls prog 122 #[.int .u32 a] w fun e w' => e = .returned (.tuple #[.int .i64 (fI a).1, .int .u32 (fI a).2.1, .bool (fI a).2.2]) /\ Below w.heap.size w w' := by
 have H4 := Hd h4
 clear h4
 go_enter func122, ntmps122
 go_upto_region 3 with (fail)
 rw [aMS, aMT]
 have hb := aE (aE (aI w) oBs) oZs
 have hX := bN w oBs oZs
 have hY := bS w oBs oZs
 generalize (w.alloc oBs).alloc oZs = W at *
 have HB := Hd hb
 have HX := Hd hX
 have HY := Hd hY
 generalize w.heap.size + 1 = q at *
 generalize hpn : w.heap.size = p at *
 have HPN := Hd hpn
 clear hb hX hY hpn
 go_upto_region 4 with (fail)
 go_loopw [7] (fun i wr => ∃ k : Nat, k <= 6 /\ i = .int .i64 k /\ wr.heap[p]? = some oBs /\ wr.heap[q]? = some oZs /\ Below p w wr /\ Hid (∀ j, j < k -> ¬ (bsN j <= a /\ a - bsN j < zsN j))) (fun i _ => 6 - (intOf i).toNat)
 case atStart => exact ⟨0, by omega, rfl, HX.out, HY.out, HB.out, Hd (fun j hj => absurd hj (Nat.not_lt_zero j))⟩
 case round =>
  obtain ⟨k, hk, rfl, hX, hY, hB, hN⟩ := hrel
  by_cases hlt : k < 6
  . have c0 : wr.cell? ⟨p, k, none⟩ = some (.int .u32 (bsN k)) := by rw [aA hX k]; exact aFR k hlt
    have c1 : wr.cell? ⟨q, k, none⟩ = some (.int .u32 (zsN k)) := by rw [aA hY k]; exact aNV k hlt
    have lX := lt_of_block hX
    have lY := lt_of_block hY
    have HX := Hd hX
    have HY := Hd hY
    have HB := Hd hB
    obtain ⟨b0, b1, b2, b3, b4⟩ := aEK k
    have HIT := Hd (aLp a H4.out k hlt)
    generalize hbs : bsN k = bs at *
    generalize hzs : zsN k = zs at *
    have HBS := Hd hbs
    have HZS := Hd hzs
    clear hX hY hB hbs hzs
    by_cases h0 : bs <= a
    . have d0 : decide (bs <= a) = true := decide_eq_true h0
      have e0 : IntKind.u32.wrap (a - bs) = a - bs := by rw [IntKind.wrap_u32]; omega
      by_cases h1 : a - bs < zs
      . have d1 : decide (a - bs < zs) = true := decide_eq_true h1
        have HF := Hd (HIT.out h0 h1)
        clear hN
        go_upto_region 6 with (fail)
        go_quiet (fail)
        have bq := uX (aI wr) nq
        have HX := Hd (aC bq HX.out lX)
        have HB := Hd (eN HPN.out HB.out bq)
        generalize wr.drewN nq = w5 at *
        have c0 : w5.cell? ⟨p, k, none⟩ = some (.int .u32 bs) := by rw [<- HBS.out, aA HX.out k]; exact aFR k hlt
        have lX := lt_of_block HX.out
        clear bq c1 lY
        go_wp2_with fail
        go_quiet (fail)
        have bq2 := uX (aI w5) nq
        go_wp2_with fail
        go_ret3
        exact ⟨by rw [HF.out]; rfl, by rw [HPN.out]; exact eN HPN.out HB.out bq2⟩
      . have d1 : decide (a - bs < zs) = false := decide_eq_false h1
        have HN := Hd hN
        clear hN
        go_upto_region 6 with (fail)
        go_quiet (fail)
        have bq := uX (aI wr) nq
        have HX := Hd (aC bq HX.out lX)
        have HY := Hd (aC bq HY.out lY)
        have HB := Hd (eN HPN.out HB.out bq)
        generalize wr.drewN nq = w5 at *
        clear bq c0 c1 lX lY
        go_wp2_with fail
        go_roundw
        case rel => exact ⟨k + 1, by omega, by go_num, HX.out, HY.out, HB.out, Hd (fun j hj => by
         by_cases e : j = k
         . subst e
           rw [HBS.out, HZS.out]
           exact fun g => h1 g.2
         . exact HN.out.out j (by omega))⟩
        case measure => simp [intOf]; omega
    . have d0 : decide (bs <= a) = false := decide_eq_false h0
      have HN := Hd hN
      clear hN
      go_upto_region 6 with (fail)
      go_quiet (fail)
      have bq := uX (aI wr) nq
      have HX := Hd (aC bq HX.out lX)
      have HY := Hd (aC bq HY.out lY)
      have HB := Hd (eN HPN.out HB.out bq)
      generalize wr.drewN nq = w5 at *
      clear bq c0 c1 lX lY
      go_wp2_with fail
      go_roundw
      case rel => exact ⟨k + 1, by omega, by go_num, HX.out, HY.out, HB.out, Hd (fun j hj => by
       by_cases e : j = k
       . subst e
         rw [HBS.out]
         exact fun g => h0 g.1
       . exact HN.out.out j (by omega))⟩
      case measure => simp [intOf]; omega
  . have HE := Hd (aOE a H4.out (fun j hj => hN.out j (by omega)))
    have HB := Hd hB
    clear hX hY hB hN
    go_wp2_with fail
    go_ret3
    exact ⟨by rw [HE.out]; rfl, by rw [HPN.out]; exact HB.out⟩
theorem aP8 (a : Int) (w : World) (h0 : 0 <= a) (h1 : a < 18446744073709551616) :
 Calls prog 193 #[.int .u64 a] w fun e w' => e = .returned (.int .u32 (lo a)) /\ w = w' := by
 exact vR
theorem wP {P : Prop} (h : P := by
 clear he
 go_enter func125, ntmps125
 go_upto_region 1 with (fail)
 rw [eA]
 generalize w.alloc (oV t) = W at *
 go_wp2_with fail
 go_ret2
 exact ⟨rfl, hB⟩
 ) : P := h
theorem mZ (t : Wd) (o : Int) (w : World) (h : t.ok) (o0 : 0 <= o) (o1 : o < 4294967296) :
 Calls prog 125 #[.agg (vl t).toArray, .int .u32 o] w fun e w' => e = .returned (.tuple #[.int .u32 (t.val o), .int .i64 (eL o)]) /\ Below w.heap.size w w' := by
 have hB := aE (aI w) (oV t)
 have X : bV (w.alloc (oV t)) w.heap.size t := aD w (oV t)
 have x0 := X.c0
 have x1 := X.c1
 have x3 := X.c3
 have x4 := X.c4
 have x5 := X.c5
 have s0 := h.s0
 have s1 : t.si < 4294967296 := by have := h.s1; have := h.t1; omega
 have hL := Hd (fun w => by have := aP8 t.si w s0 (by omega); rw [aA9 s0 s1] at this; exact this)
 clear h
 by_cases he : eL o = 0
 . rcases oB o0 he with rfl | rfl | rfl | rfl | rfl
   . have hv : t.val 0 = tk t.en + 2 * tk t.lk := rfl
     rw [hv]
     obtain ⟨en, hen⟩ : ∃ b, t.en = b := ⟨_, rfl⟩
     obtain ⟨lk, hlk⟩ : ∃ b, t.lk = b := ⟨_, rfl⟩
     rw [hen, hlk]
     rw [hen] at x0
     rw [hlk] at x1
     clear hv hen hlk
     cases en <;> cases lk
     all_goals
      go_enter func125, ntmps125
      go_upto_region 1 with (fail)
      rw [eA]
      generalize w.alloc (oV t) = W at *
      go_wp2_with fail
      go_ret2
      exact ⟨rfl, hB⟩
   all_goals
    go_enter func125, ntmps125
    go_upto_region 1 with (fail)
    rw [eA]
    generalize w.alloc (oV t) = W at *
    go_wp2_with (first | (go_at_call 193; refine (hL.out _).mono ?_; rintro e w' ⟨rfl, rfl⟩))
    go_ret2
    exact ⟨rfl, hB⟩
 . rw [Wd.val_none o0 he]
   cases h4 : (o % 4 != 0)
   . by_cases h8 : 20 <= o
     . rw [aBg h4 h8]
       have q0 : (o == 0) = false := by simp; omega
       have q4 : (o == 4) = false := by simp; omega
       have q8 : (o == 8) = false := by simp; omega
       have q12 : (o == 12) = false := by simp; omega
       have q16 : (o == 16) = false := by simp; omega
       exact wP
     . exact absurd (aD9 h4 (by omega)) he
   . rw [aBh h4]
     exact wP
end Go.Proofs.YtealhichdbimlaaGreat.B
