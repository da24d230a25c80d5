/- A part of the proof of a law of layer 12: bg. -/
import Derived.Test.YtaohacadochldaaGreatZCbf
set_option linter.unusedVariables false
set_option linter.unusedSimpArgs false
set_option maxHeartbeats 12800000
set_option maxRecDepth 100000
namespace Go.Proofs.YtaohacadochldaaGreat.B
open Go.Proofs.Tryz
open Go.ChangeShapes Go.WideShapes Go.RowKit Go.Sort
theorem i27 : (prog.info? 150).map (·.size) = some 64 := by kernel_rfl
def dZ (f g : Nat -> Bool) : List Value := bl f 32 ++ bl g 32
theorem dJ (f g : Nat -> Bool) : (dZ f g).length = 64 := by unfold dZ; simp [bI]
theorem aIn (f g : Nat -> Bool) : ∀ v ∈ dZ f g, v.oneCell' = true := by
 intro v h
 unfold dZ at h
 rcases List.mem_append.1 h with h | h
 . exact rO _ _ v h
 . exact rO _ _ v h
theorem aGR (f g : Nat -> Bool) (i : Nat) (h : i < 32) : (dZ f g)[i]? = some (.bool (f i)) := by
 unfold dZ; rw [List.getElem?_append_left (by rw [bI]; exact h), rN _ _ _ h]
theorem aEb (f g : Nat -> Bool) (i : Nat) (h : i < 32) : (dZ f g)[32 + i]? = some (.bool (g i)) := by
 unfold dZ; rw [List.getElem?_append_right (by rw [bI]; omega), bI, show 32 + i - 32 = i by omega, rN _ _ _ h]
theorem yG (f g : Nat -> Bool) : eM (dZ f g).toArray 0 (bl f 32) := lG _ _
theorem rS (f g : Nat -> Bool) : eM (dZ f g).toArray 32 (bl g 32) := aCu _ _ 32 (bI f 32)
theorem aBG (f g h : Nat -> Bool) : bR (dZ f g).toArray 32 (bl h 32) = (dZ f h).toArray := vR _ _ _ 32 (bI f 32) (by rw [bI, bI])
section
variable {ops : Array Oper} {rest : List Oper} {o : Oper} {a : Act} {w : World} {Q : Exit -> Act -> World -> Prop}
theorem mX (hgd : o.guard = none) (x : Operand) (ho : o.op = .load 150 x) (b : Nat) (hx : a.eval x = .pointer (some ⟨b, 0, none⟩)) {t : TypeId} {fr : Nat × Nat} (f g : Nat -> Bool) (hg : w.heap[b]? = some (.cells (dZ f g).toArray t fr))
 (h : wpList prog ops Q rest (a.put o.dst (.agg (dZ f g).toArray)) w) : wpList prog ops Q (o :: rest) a w :=
 aN hgd _ x ho b 0 hx _ (dZ f g) hg underlying150 rfl (by rw [dJ]; exact i27) (aL _) h
theorem jU (hgd : o.guard = none) (x y : Operand) (ho : o.op = .store 150 x y) (b : Nat) (hx : a.eval x = .pointer (some ⟨b, 0, none⟩)) (f g : Nat -> Bool) (hy : a.eval y = .agg (dZ f g).toArray) {t : TypeId} {cs : Array Value} (hg : w.heap[b]? = some (.cells cs t (0, 0))) (hl : cs.size = 64)
 (h : wpList prog ops Q rest (a.put o.dst undef) (w.setRow b (dZ f g).toArray)) : wpList prog ops Q (o :: rest) a w :=
 aJ hgd _ x y ho b 0 hx (dZ f g) hy hg (by rw [dJ]; exact i27) (by rw [dJ]; omega) (aIn _ _) (by rw [aW _ _ (by rw [dJ]; exact hl)]; exact h)
theorem aI4 {C : World -> Prop} {K : Act -> Prop} (x : Operand) (ho : o.op = .load 150 x) (b : Nat) (hx : a.eval x = .pointer (some ⟨b, 0, none⟩)) {t : TypeId} {fr : Nat × Nat} (f g : Nat -> Bool) (hg : ∀ w, C w -> w.heap[b]? = some (.cells (dZ f g).toArray t fr))
 (h : K (a.put o.dst (.agg (dZ f g).toArray))) : o.quiet prog a C K :=
 bD _ x ho b 0 hx _ (dZ f g) hg underlying150 rfl (by rw [dJ]; exact i27) (aL _) h
end
theorem rR {w : World} {b : Nat} {f g : Nat -> Bool} {t : TypeId} {fr : Nat × Nat} (h : w.heap[b]? = some (.cells (dZ f g).toArray t fr)) (k : Nat) (hk : k < 32) : w.cell? ⟨b, k, none⟩ = some (.bool (f k)) := by
 rw [cell_of_row w b k _ t fr h]; simpa using aGR f g k hk
theorem yF {w : World} {b : Nat} {f g : Nat -> Bool} {t : TypeId} {fr : Nat × Nat} (h : w.heap[b]? = some (.cells (dZ f g).toArray t fr)) (k : Nat) (hk : k < 32) : w.cell? ⟨b, 32 + k, none⟩ = some (.bool (g k)) := by
 rw [cell_of_row w b (32 + k) _ t fr h]; simpa using aEb f g k hk
abbrev tL4 : TypeId := 150
def sI (w : World) (b : Nat) (f g : Nat -> Bool) : Prop := w.heap[b]? = some (.cells (dZ f g).toArray tL4 (0, 0))
theorem sI.congr {w : World} {b : Nat} {f g f' : Nat -> Bool} (h : sI w b f g) (hf : ∀ i, i < 32 -> f i = f' i) : sI w b f' g := by
 unfold sI dZ at *
 rw [kF f' f 32 fun i hi => (hf i hi).symm]; exact h
theorem sI.lt {w : World} {b : Nat} {f g : Nat -> Bool} (h : sI w b f g) : b < w.heap.size := lt_of_block h
theorem sI.free {w : World} {b : Nat} {f g : Nat -> Bool} (h : sI w b f g) (j : Nat) : w.frozen? ⟨b, j, none⟩ = false := aK h j
theorem sI.below {w w' : World} {b : Nat} {f g : Nat -> Bool} (h : sI w b f g) (hb : Below w.heap.size w w') : sI w' b f g := aC hb h h.lt
theorem aGS (f g : Nat -> Bool) (k : Nat) (B : Bool) (hk : k < 32) : (dZ f g).toArray.setIfInBounds k (.bool B) = (dZ (fun i => if i = k then B else f i) g).toArray := by
 rw [gL]
 unfold dZ
 rw [List.set_append_left _ _ (by rw [bI]; exact hk), aCN]
theorem sI.put {w : World} {b : Nat} {f g : Nat -> Bool} (h : sI w b f g) (k : Nat) (B : Bool) (hk : k < 32) : sI (w.setCell ⟨b, k, none⟩ (.bool B)) b (fun i => if i = k then B else f i) g := by
 unfold sI
 rw [aR h, aGS f g k B hk]
theorem sI.cell {w : World} {b : Nat} {f g : Nat -> Bool} (h : sI w b f g) (k : Nat) (hk : k < 32) : w.cell? ⟨b, k, none⟩ = some (.bool (f k)) := rR h k hk
def qO : Obj := .cells (dZ (aO 0) (aO 0)).toArray tL4 (0, 0)
theorem aAf : Obj.cells #[.bool false, .bool false, .bool false, .bool false, .bool false, .bool false, .bool false, .bool false, .bool false, .bool false, .bool false, .bool false, .bool false, .bool false, .bool false, .bool false, .bool false, .bool false, .bool false, .bool false, .bool false, .bool false, .bool false, .bool false, .bool false, .bool false, .bool false, .bool false, .bool false, .bool false, .bool false, .bool false, .bool false, .bool false, .bool false, .bool false, .bool false, .bool false, .bool false, .bool false, .bool false, .bool false, .bool false, .bool false, .bool false, .bool false, .bool false, .bool false, .bool false, .bool false, .bool false, .bool false, .bool false, .bool false, .bool false, .bool false, .bool false, .bool false, .bool false, .bool false, .bool false, .bool false, .bool false, .bool false] 150 (0, 0) = qO := by
 unfold qO
 rw [show dZ (aO 0) (aO 0) = dZ (fun _ => false) (fun _ => false) by unfold dZ; rw [kF (aO 0) (fun _ => false) 32 fun i _ => kY i]]
 rfl
structure oX (w0 w : World) (p r q n : Nat) (x : Bx) (bk ev : Value) (f g : Nat -> Bool) : Prop where
 h : eY w p n x bk ev
 z : sI w r (aO 0) (aO 0)
 l : sI w q f g
 lo : Below w0.heap.size w0 w
 sp : w0.heap.size <= p
 pr : p < r
 rq : r < q
section
variable {w0 w w' : World} {p r q n c : Nat} {x : Bx} {bk ev : Value} {f g : Nat -> Bool}
theorem oX.below (L : oX w0 w p r q n x bk ev f g) (hb : Below w.heap.size w w') : oX w0 w' p r q n x bk ev f g :=
 ⟨L.h.below hb, L.z.below hb, L.l.below hb, tr L.lo hb, L.sp, L.pr, L.rq⟩
theorem oX.put (L : oX w0 w p r q n x bk ev f g) (k : Nat) (B : Bool) (hk : k < 32) : oX w0 (w.setCell ⟨q, k, none⟩ (.bool B)) p r q n x bk ev (fun i => if i = k then B else f i) g := by
 have h1 := L.pr
 have h2 := L.rq
 have h3 := L.sp
 exact ⟨aV L.h _ _ _ (by omega), aV L.z _ _ _ (by omega), L.l.put k B hk, aF.toBelow L.lo (aG w q k _) (fun j hj e => by omega) (Nat.le_refl _), h3, h1, h2⟩
theorem oX.congr {f' : Nat -> Bool} (L : oX w0 w p r q n x bk ev f g) (hf : ∀ i, i < 32 -> f i = f' i) : oX w0 w p r q n x bk ev f' g := ⟨L.h, L.z, L.l.congr hf, L.lo, L.sp, L.pr, L.rq⟩
theorem oX.mask (L : oX w0 w p r q n x bk ev f g) (m : Int) : oX w0 (w.setRow q (dZ f (aO m)).toArray) p r q n x bk ev f (aO m) := by
 have h1 := L.pr
 have h2 := L.rq
 have h3 := L.sp
 exact ⟨eQ q _ L.h (by omega), eQ q _ L.z (by omega), aY _ L.l, aB L.lo _ (by omega), h3, h1, h2⟩
theorem aL7 (w : World) (n : Nat) (x : Bx) (bk ev : Value) : oX w (((w.alloc (bV n x bk ev)).alloc qO).alloc qO) w.heap.size (w.heap.size + 1) (w.heap.size + 1 + 1) n x bk ev (aO 0) (aO 0) := by
 have hs : ((w.alloc (bV n x bk ev)).alloc qO).heap.size = w.heap.size + 1 + 1 := by simp
 have h0 := bM w (bV n x bk ev) qO
 have h1 := bU w (bV n x bk ev) qO
 refine ⟨(aX _ _ (by omega)).trans h0, (aX _ _ (by omega)).trans h1, ?_, aE (aE (aE (aH w) _) _) _, Nat.le_refl _, by omega, by omega⟩
 have := aD ((w.alloc (bV n x bk ev)).alloc qO) qO
 rw [hs] at this
 exact this
end
def fA (x : Bx) (k i : Nat) : Bool := if i < 8 then decide (i < k) && decide (x.D i <= x.ti) else if i < 24 then false else decide (i - 24 < k) && (x.S (i - 24) == 1)
def fB (n : Nat) (x : Bx) (k i : Nat) : Bool := if i < 8 then fA x n i else if i < 16 then decide (i - 8 < k) && ((x.tm (i - 8)).st && (x.tm (i - 8)).iq) else fA x n i
theorem aIc (x : Bx) (i : Nat) : aO 0 i = fA x 0 i := by
 rw [kY]
 unfold fA
 split
 . rw [decide_eq_false (by omega)]; rfl
 . split
   . rfl
   . rw [decide_eq_false (by omega)]; rfl
theorem aIb (x : Bx) (k : Nat) (hk : k < 8) (i : Nat) (hi : i < 32) : (if i = 24 + k then (x.S k == 1) else if i = k then decide (x.D k <= x.ti) else fA x k i) = fA x (k + 1) i := by
 unfold fA
 by_cases h1 : i = 24 + k
 . subst h1
   rw [if_pos rfl, if_neg (by omega), if_neg (by omega), Nat.add_sub_cancel_left, decide_eq_true (by omega), Bool.true_and]
 . rw [if_neg h1]
   by_cases h2 : i = k
   . subst h2
     rw [if_pos rfl, if_pos hk, show decide (i < i + 1) = true from decide_eq_true (by omega), Bool.true_and]
   . rw [if_neg h2]
     by_cases h3 : i < 8
     . rw [if_pos h3, if_pos h3, show decide (i < k) = decide (i < k + 1) from decide_eq_decide.2 (by omega)]
     . rw [if_neg h3, if_neg h3]
       by_cases h4 : i < 24
       . rw [if_pos h4, if_pos h4]
       . rw [if_neg h4, if_neg h4, show decide (i - 24 < k) = decide (i - 24 < k + 1) from decide_eq_decide.2 (by omega)]
theorem aIe (n : Nat) (x : Bx) (i : Nat) : fA x n i = fB n x 0 i := by
 unfold fB
 split
 . rfl
 . split
   . unfold fA
     rw [if_neg (by omega), if_pos (by omega), decide_eq_false (by omega)]; rfl
   . rfl
theorem aId (n : Nat) (x : Bx) (k : Nat) (hk : k < 8) (i : Nat) : (if i = 8 + k then ((x.tm k).st && (x.tm k).iq) else fB n x k i) = fB n x (k + 1) i := by
 unfold fB
 by_cases h1 : i = 8 + k
 . subst h1
   rw [if_pos rfl, if_neg (by omega), if_pos (by omega), Nat.add_sub_cancel_left, decide_eq_true (by omega), Bool.true_and]
 . rw [if_neg h1]
   by_cases h3 : i < 8
   . rw [if_pos h3, if_pos h3]
   . rw [if_neg h3, if_neg h3]
     by_cases h4 : i < 16
     . rw [if_pos h4, if_pos h4, show decide (i - 8 < k) = decide (i - 8 < k + 1) from decide_eq_decide.2 (by omega)]
     . rw [if_neg h4, if_neg h4]
theorem aLj (n c : Nat) (x : Bx) (i : Nat) (hi : i < 32) : (if i = 16 then x.rk.st else fB n x c i) = fH n c x i := by
 unfold fB fA fH
 by_cases h1 : i < 8
 . rw [if_neg (by omega), if_pos h1, if_pos h1, if_pos h1]
 . rw [if_neg h1, if_neg h1, if_neg h1]
   by_cases h2 : i < 16
   . rw [if_neg (by omega), if_pos h2, if_pos h2]
   . rw [if_neg h2, if_neg h2]
theorem aIo (t : Int) (D : Nat -> Int) (n k : Nat) (h : k < n) : oR t n D (k : Int) = decide (D k <= t) := by
 exact wP
theorem aAe (n c : Nat) (x : Bx) (bk ev : Value) (w : World) (M : MV w c x bk ev) (ok : x.ok n c) :
 Calls prog 85 #[.agg (ml n x bk ev).toArray] w fun e w' => e = .returned (.agg (dZ (fH n c x) (aO x.msk)).toArray) /\ Below w.heap.size w w' := by
 have HOK := Hd ok
 obtain ⟨gk, capk, rfl, hrk⟩ := M.k
 have HM := Hd M
 have HR := Hd hrk
 clear M hrk ok
 go_enter func85, ntmps85
 go_upto_region 2 with (fail)
 rw [cI, aAf]
 have hL := (aL7 w n x (.slice (some ⟨gk, 0, none⟩) c capk) ev).congr (fun i _ => aIc x i)
 have hM := HM.out.below (aE (aE (aE (aH w) (bV n x (.slice (some ⟨gk, 0, none⟩) c capk) ev)) qO) qO)
 have HR := Hd hM.row
 clear HM
 generalize (((w.alloc (bV n x (.slice (some ⟨gk, 0, none⟩) c capk) ev)).alloc qO).alloc qO) = W at *
 generalize w.heap.size + 1 + 1 = q at *
 generalize w.heap.size + 1 = r at *
 generalize hpn : w.heap.size = p at *
 clear hM hpn
 have HG := Hd hL
 have HOD := Hd (fun v => aCz v x.ti n x.D x.S)
 have hn8 := HOK.out.n8
 have hc8 := HOK.out.c8
 clear hL
 go_upto_region 3 with (fail)
 go_loopw [4] (fun i wr => ∃ k : Nat, k <= n /\ i = .int .i64 k /\ oX w wr p r q n x (.slice (some ⟨gk, 0, none⟩) c capk) ev (fA x k) (aO 0) /\ eD wr gk c capk x.tm) (fun i _ => n - (intOf i).toNat)
 case atStart => exact ⟨0, by omega, rfl, HG.out, HR.out⟩
 case round =>
  obtain ⟨k, hk, rfl, hL, hR⟩ := hrel
  have HG := Hd hL
  have HR := Hd hR
  have cN := hL.h.cN
  clear hL hR
  by_cases hlt : k < n
  . have hk8 : k < 8 := by omega
    have cS := HG.out.h.cS k hk8
    have hidx : (0 : Int) <= (k : Int) /\ (k : Int) < 32 := by omega
    go_upto_region 6 with (first | (refine pH rfl (.tmp 14) rfl rfl HG.out.h ?_) | (go_at_call 18; refine (HOD.out (k : Int) _ hn8 HOK.out.d).mono ?_; rintro e w5 ⟨rfl, b5⟩; rw [aIo x.ti x.D n k hlt]; have HG := Hd (HG.out.below b5); have HR := Hd (HR.out.below b5); clear b5 cN cS; have cQ := HG.out.l.cell k (by omega); have fQ := HG.out.l.free k; have lQ := HG.out.l.lt))
    clear cQ fQ lQ
    have hL6 := HG.out.put k (decide (x.D k <= x.ti)) (by omega)
    have hR6 := HR.out.off (aG w5 q k (.bool (decide (x.D k <= x.ti)))) (HR.out.ne HG.out.l rfl)
    generalize w5.setCell ⟨q, k, none⟩ (.bool (decide (x.D k <= x.ti))) = w6 at *
    have HG := Hd hL6
    have HR := Hd hR6
    have cS := HG.out.h.cS k hk8
    have cQ := HG.out.l.cell (24 + k) (by omega)
    have fQ := HG.out.l.free (24 + k)
    have lQ := HG.out.l.lt
    clear hL6 hR6
    go_upto_region 4 with (fail)
    clear cQ fQ lQ cS
    have hL7 := (HG.out.put (24 + k) (x.S k == 1) (by omega)).congr (fun i hi => aIb x k hk8 i hi)
    have hR7 := HR.out.off (aG w6 q (24 + k) (.bool (x.S k == 1))) (HR.out.ne HG.out.l rfl)
    generalize w6.setCell ⟨q, 24 + k, none⟩ (.bool (x.S k == 1)) = w7 at *
    have HG := Hd hL7
    have HR := Hd hR7
    clear hL7 hR7
    go_wp2_with fail
    go_roundw
    case rel => exact ⟨k + 1, by omega, by go_num, HG.out, HR.out⟩
    case measure => simp [intOf]; omega
  . have hkn : k = n := by omega
    subst hkn
    have HG := Hd (HG.out.congr fun i _ => aIe k x i)
    go_upto_region 8 with (fail)
    go_loopw [5] (fun j wr => ∃ i : Nat, i <= c /\ j = .int .i64 i /\ oX w wr p r q k x (.slice (some ⟨gk, 0, none⟩) c capk) ev (fB k x i) (aO 0) /\ eD wr gk c capk x.tm) (fun j _ => c - (intOf j).toNat)
    case atStart => exact ⟨0, by omega, rfl, HG.out, HR.out⟩
    case round =>
     obtain ⟨i, hi, rfl, hL, hR⟩ := hrel
     have HG := Hd hL
     have HR := Hd hR
     have cB := hL.h.cB
     clear hL hR cN
     by_cases hlt : i < c
     . have hi8 : i < 8 := by omega
       have c4 := HR.out.c hlt 4 _ rfl
       have c7 := HR.out.c hlt 7 _ rfl
       have cQ := HG.out.l.cell (8 + i) (by omega)
       have fQ := HG.out.l.free (8 + i)
       have lQ := HG.out.l.lt
       have HNX := Hd (aId k x i hi8)
       generalize (x.tm i).st = st at *
       generalize (x.tm i).iq = iq at *
       cases st <;> cases iq
       . go_upto_region 9 with (fail)
         have hL8 := (HG.out.put (8 + i) false (by omega)).congr (fun j _ => HNX.out j)
         have hR8 := HR.out.off (aG wr q (8 + i) (.bool false)) (HR.out.ne HG.out.l rfl)
         generalize wr.setCell ⟨q, 8 + i, none⟩ (.bool false) = w8 at *
         clear cQ fQ lQ c4 c7 cB
         have HG := Hd hL8
         have HR := Hd hR8
         clear hL8 hR8
         go_wp2_with fail
         go_roundw
         case rel => exact ⟨i + 1, by omega, by go_num, HG.out, HR.out⟩
         case measure => simp [intOf]; omega
       . go_upto_region 9 with (fail)
         have hL8 := (HG.out.put (8 + i) false (by omega)).congr (fun j _ => HNX.out j)
         have hR8 := HR.out.off (aG wr q (8 + i) (.bool false)) (HR.out.ne HG.out.l rfl)
         generalize wr.setCell ⟨q, 8 + i, none⟩ (.bool false) = w8 at *
         clear cQ fQ lQ c4 c7 cB
         have HG := Hd hL8
         have HR := Hd hR8
         clear hL8 hR8
         go_wp2_with fail
         go_roundw
         case rel => exact ⟨i + 1, by omega, by go_num, HG.out, HR.out⟩
         case measure => simp [intOf]; omega
       . go_upto_region 9 with (fail)
         have hL8 := (HG.out.put (8 + i) false (by omega)).congr (fun j _ => HNX.out j)
         have hR8 := HR.out.off (aG wr q (8 + i) (.bool false)) (HR.out.ne HG.out.l rfl)
         generalize wr.setCell ⟨q, 8 + i, none⟩ (.bool false) = w8 at *
         clear cQ fQ lQ c4 c7 cB
         have HG := Hd hL8
         have HR := Hd hR8
         clear hL8 hR8
         go_wp2_with fail
         go_roundw
         case rel => exact ⟨i + 1, by omega, by go_num, HG.out, HR.out⟩
         case measure => simp [intOf]; omega
       . go_upto_region 9 with (fail)
         have hL8 := (HG.out.put (8 + i) true (by omega)).congr (fun j _ => HNX.out j)
         have hR8 := HR.out.off (aG wr q (8 + i) (.bool true)) (HR.out.ne HG.out.l rfl)
         generalize wr.setCell ⟨q, 8 + i, none⟩ (.bool true) = w8 at *
         clear cQ fQ lQ c4 c7 cB
         have HG := Hd hL8
         have HR := Hd hR8
         clear hL8 hR8
         go_wp2_with fail
         go_roundw
         case rel => exact ⟨i + 1, by omega, by go_num, HG.out, HR.out⟩
         case measure => simp [intOf]; omega
     . have hic : i = c := by omega
       subst hic
       have cR := HG.out.h.cR
       have cQ := HG.out.l.cell 16 (by omega)
       have fQ := HG.out.l.free 16
       have lQ := HG.out.l.lt
       go_upto_region 12 with (fail)
       clear cQ fQ lQ cR cB
       have hL9 := (HG.out.put 16 x.rk.st (by omega)).congr (fun j hj => aLj k i x j hj)
       generalize wr.setCell ⟨q, 16, none⟩ (.bool x.rk.st) = w9 at *
       have HG := Hd hL9
       clear hL9 HR
       go_wp2_with (first | (refine aMK rfl (.tmp 60) rfl rfl HG.out.h ?_) | (refine sZ rfl (.tmp 62) (.tmp 61) rfl _ _ rfl (aO x.msk) rfl HG.out.l (by simp [dJ]) ?_; rw [aBG]; have HG2 := Hd (HG.out.mask x.msk); generalize w9.setRow q (dZ (fH k i x) (aO x.msk)).toArray = w10 at *) | (refine mX rfl (.tmp 3) rfl _ rfl _ _ HG2.out.l ?_) | (refine jU rfl (.tmp 2) (.tmp 63) rfl _ rfl _ _ rfl HG2.out.z (by simp [dJ]) ?_))
       refine bodyPost_ret (v := .agg (dZ (fH k i x) (aO x.msk)).toArray) ?_ rfl ⟨rfl, aB HG2.out.lo _ (by have := HG2.out.sp; have := HG2.out.pr; omega)⟩
       exact aS results85 _ _ r 0 _ (dZ (fH k i x) (aO x.msk)) rfl (aY _ HG2.out.z) underlying150 rfl (by rw [dJ]; exact i27) (aL _)
def bsN (k : Nat) : Int := if k = 0 then 33554432 else if k = 1 then 268500992 else if k = 2 then 268566528 else if k = 3 then 268632064 else if k = 4 then 268697600 else 268763136
def zsN (k : Nat) : Int := if k = 0 then 49152 else if k = 1 then 256 else if k = 2 then 20 else if k = 3 then 16 else if k = 4 then 36 else 12
def fI (a : Int) : Int × Int × Bool := match wh a with
 | .odd => (0, 0, false) | .no => (0, 0, false) | .cl o => (0, o, true) | .bk o => (1, o, true) | .dg o => (2, o, true) | .rs o => (3, o, true) | .rk o => (4, o, true) | .ln o => (5, o, true)
theorem six {k : Nat} (h : k < 6) : k = 0 \/ k = 1 \/ k = 2 \/ k = 3 \/ k = 4 \/ k = 5 := by omega
theorem aEJ (k : Nat) : 0 <= bsN k /\ bsN k + zsN k < 4294967296 /\ 0 < zsN k /\ bsN k < 4294967296 /\ zsN k < 4294967296 := by
 unfold bsN zsN
 repeat' split
 all_goals omega
theorem aLl (a : Int) (h4 : a % 4 = 0) (k : Nat) (hk : k < 6) (h0 : bsN k <= a) (h1 : a - bsN k < zsN k) : fI a = ((k : Int), a - bsN k, true) := by
 unfold fI
 rcases six hk with rfl | rfl | rfl | rfl | rfl | rfl <;> simp only [bsN, zsN] at * <;> rcases pK a with ⟨g, e⟩ | ⟨g4, g0, g1, e⟩ | ⟨g4, g0, g1, e⟩ | ⟨g4, g0, g1, e⟩ | ⟨g4, g0, g1, e⟩ | ⟨g4, g0, g1, e⟩ | ⟨g4, g0, g1, e⟩ | ⟨g4, g, e⟩ <;> first | (rw [e]; rfl) | (exfalso; simp at h0 h1; omega)
theorem aOB (a : Int) (h4 : a % 4 = 0) (h : ∀ k, k < 6 -> ¬ (bsN k <= a /\ a - bsN k < zsN k)) : fI a = (0, 0, false) := by
 have h0 := h 0 (by decide)
 have h1 := h 1 (by decide)
 have h2 := h 2 (by decide)
 have h3 := h 3 (by decide)
 have h5 := h 4 (by decide)
 have h6 := h 5 (by decide)
 simp [bsN, zsN] at h0 h1 h2 h3 h5 h6
 unfold fI
 rcases pK a with ⟨g, e⟩ | ⟨g4, g0, g1, e⟩ | ⟨g4, g0, g1, e⟩ | ⟨g4, g0, g1, e⟩ | ⟨g4, g0, g1, e⟩ | ⟨g4, g0, g1, e⟩ | ⟨g4, g0, g1, e⟩ | ⟨g4, g, e⟩ <;> first | (rw [e]; done) | (exfalso; omega)
theorem aFT (k : Nat) (hk : k < 6) : (#[.int .u32 33554432, .int .u32 268500992, .int .u32 268566528, .int .u32 268632064, .int .u32 268697600, .int .u32 268763136] : Array Value)[k]? = some (.int .u32 (bsN k)) := by
 rcases six hk with rfl | rfl | rfl | rfl | rfl | rfl <;> rfl
theorem aNP (k : Nat) (hk : k < 6) : (#[.int .u32 49152, .int .u32 256, .int .u32 20, .int .u32 16, .int .u32 36, .int .u32 12] : Array Value)[k]? = some (.int .u32 (zsN k)) := by
 rcases six hk with rfl | rfl | rfl | rfl | rfl | rfl <;> rfl
def oBs : Obj := .cells #[.int .u32 33554432, .int .u32 268500992, .int .u32 268566528, .int .u32 268632064, .int .u32 268697600, .int .u32 268763136] 26 (0, 0)
def oZs : Obj := .cells #[.int .u32 49152, .int .u32 256, .int .u32 20, .int .u32 16, .int .u32 36, .int .u32 12] 26 (0, 0)
theorem aMO : Obj.cells #[.int .u32 33554432, .int .u32 268500992, .int .u32 268566528, .int .u32 268632064, .int .u32 268697600, .int .u32 268763136] 26 (0, 0) = oBs := rfl
theorem aMP : Obj.cells #[.int .u32 49152, .int .u32 256, .int .u32 20, .int .u32 16, .int .u32 36, .int .u32 12] 26 (0, 0) = oZs := rfl
theorem eX {p : Nat} {a b c : World} (e : a.heap.size = p) (h : Below p a b) (k : Below b.heap.size b c) : Below p a c := by subst e; exact tr h k
theorem jL (a : Int) (w : World) (a0 : 0 <= a) (a1 : a < 4294967296) (h4 : a % 4 = 0) :
 Calls prog 121 #[.int .u32 a] w fun e w' => e = .returned (.tuple #[.int .i64 (fI a).1, .int .u32 (fI a).2.1, .bool (fI a).2.2]) /\ Below w.heap.size w w' := by
 have H4 := Hd h4
 clear h4
 go_enter func121, ntmps121
 go_upto_region 3 with (fail)
 rw [aMO, aMP]
 have hb := aE (aE (aH w) oBs) oZs
 have hX := bM w oBs oZs
 have hY := bU w oBs oZs
 generalize (w.alloc oBs).alloc oZs = W at *
 have HB := Hd hb
 have HX := Hd hX
 have HY := Hd hY
 generalize w.heap.size + 1 = q at *
 generalize hpn : w.heap.size = p at *
 have HPN := Hd hpn
 clear hb hX hY hpn
 go_upto_region 4 with (fail)
 go_loopw [7] (fun i wr => ∃ k : Nat, k <= 6 /\ i = .int .i64 k /\ wr.heap[p]? = some oBs /\ wr.heap[q]? = some oZs /\ Below p w wr /\ Hid (∀ j, j < k -> ¬ (bsN j <= a /\ a - bsN j < zsN j))) (fun i _ => 6 - (intOf i).toNat)
 case atStart => exact ⟨0, by omega, rfl, HX.out, HY.out, HB.out, Hd (fun j hj => absurd hj (Nat.not_lt_zero j))⟩
 case round =>
  obtain ⟨k, hk, rfl, hX, hY, hB, hN⟩ := hrel
  by_cases hlt : k < 6
  . have c0 : wr.cell? ⟨p, k, none⟩ = some (.int .u32 (bsN k)) := by rw [aA hX k]; exact aFT k hlt
    have c1 : wr.cell? ⟨q, k, none⟩ = some (.int .u32 (zsN k)) := by rw [aA hY k]; exact aNP k hlt
    have lX := lt_of_block hX
    have lY := lt_of_block hY
    have HX := Hd hX
    have HY := Hd hY
    have HB := Hd hB
    obtain ⟨b0, b1, b2, b3, b4⟩ := aEJ k
    have HIT := Hd (aLl a H4.out k hlt)
    generalize hbs : bsN k = bs at *
    generalize hzs : zsN k = zs at *
    have HBS := Hd hbs
    have HZS := Hd hzs
    clear hX hY hB hbs hzs
    by_cases h0 : bs <= a
    . have d0 : decide (bs <= a) = true := decide_eq_true h0
      have e0 : IntKind.u32.wrap (a - bs) = a - bs := by rw [IntKind.wrap_u32]; omega
      by_cases h1 : a - bs < zs
      . have d1 : decide (a - bs < zs) = true := decide_eq_true h1
        have HF := Hd (HIT.out h0 h1)
        clear hN
        go_upto_region 6 with (fail)
        go_quiet (fail)
        have bq := vG (aH wr) nq
        have HX := Hd (aC bq HX.out lX)
        have HB := Hd (eX HPN.out HB.out bq)
        generalize wr.drewN nq = w5 at *
        have c0 : w5.cell? ⟨p, k, none⟩ = some (.int .u32 bs) := by rw [<- HBS.out, aA HX.out k]; exact aFT k hlt
        have lX := lt_of_block HX.out
        clear bq c1 lY
        go_wp2_with fail
        go_quiet (fail)
        have bq2 := vG (aH w5) nq
        go_wp2_with fail
        go_ret3
        exact ⟨by rw [HF.out]; rfl, by rw [HPN.out]; exact eX HPN.out HB.out bq2⟩
      . have d1 : decide (a - bs < zs) = false := decide_eq_false h1
        have HN := Hd hN
        clear hN
        go_upto_region 6 with (fail)
        go_quiet (fail)
        have bq := vG (aH wr) nq
        have HX := Hd (aC bq HX.out lX)
        have HY := Hd (aC bq HY.out lY)
        have HB := Hd (eX HPN.out HB.out bq)
        generalize wr.drewN nq = w5 at *
        clear bq c0 c1 lX lY
        go_wp2_with fail
        go_roundw
        case rel => exact ⟨k + 1, by omega, by go_num, HX.out, HY.out, HB.out, Hd (fun j hj => by
         by_cases e : j = k
         . subst e
           rw [HBS.out, HZS.out]
           exact fun g => h1 g.2
         . exact HN.out.out j (by omega))⟩
        case measure => simp [intOf]; omega
    . have d0 : decide (bs <= a) = false := decide_eq_false h0
      have HN := Hd hN
      clear hN
      go_upto_region 6 with (fail)
      go_quiet (fail)
      have bq := vG (aH wr) nq
      have HX := Hd (aC bq HX.out lX)
      have HY := Hd (aC bq HY.out lY)
      have HB := Hd (eX HPN.out HB.out bq)
      generalize wr.drewN nq = w5 at *
      clear bq c0 c1 lX lY
      go_wp2_with fail
      go_roundw
      case rel => exact ⟨k + 1, by omega, by go_num, HX.out, HY.out, HB.out, Hd (fun j hj => by
       by_cases e : j = k
       . subst e
         rw [HBS.out]
         exact fun g => h0 g.1
       . exact HN.out.out j (by omega))⟩
      case measure => simp [intOf]; omega
  . have HE := Hd (aOB a H4.out (fun j hj => hN.out j (by omega)))
    have HB := Hd hB
    clear hX hY hB hN
    go_wp2_with fail
    go_ret3
    exact ⟨by rw [HE.out]; rfl, by rw [HPN.out]; exact HB.out⟩
theorem aP6 (a : Int) (w : World) (h0 : 0 <= a) (h1 : a < 18446744073709551616) :
 Calls prog 35 #[.int .u64 a] w fun e w' => e = .returned (.int .u32 (lo a)) /\ w = w' := by
 exact vZ
theorem wW {P : Prop} (h : P := by
 clear he
 go_enter func130, ntmps130
 go_upto_region 1 with (fail)
 rw [eH]
 generalize w.alloc (oV t) = W at *
 go_wp2_with fail
 go_ret2
 exact ⟨rfl, hB⟩
 ) : P := h
theorem nH (t : Wd) (o : Int) (w : World) (h : t.ok) (o0 : 0 <= o) (o1 : o < 4294967296) :
 Calls prog 130 #[.agg (vl t).toArray, .int .u32 o] w fun e w' => e = .returned (.tuple #[.int .u32 (t.val o), .int .i64 (eS o)]) /\ Below w.heap.size w w' := by
 have hB := aE (aH w) (oV t)
 have X : bX (w.alloc (oV t)) w.heap.size t := aD w (oV t)
 have x0 := X.c0
 have x1 := X.c1
 have x3 := X.c3
 have x4 := X.c4
 have x5 := X.c5
 have s0 := h.s0
 have s1 : t.si < 4294967296 := by have := h.s1; have := h.t1; omega
 have hL := Hd (fun w => by have := aP6 t.si w s0 (by omega); rw [aBK s0 s1] at this; exact this)
 clear h
 by_cases he : eS o = 0
 . rcases oJ o0 he with rfl | rfl | rfl | rfl | rfl
   . have hv : t.val 0 = tk t.en + 2 * tk t.lk := rfl
     rw [hv]
     obtain ⟨en, hen⟩ : ∃ b, t.en = b := ⟨_, rfl⟩
     obtain ⟨lk, hlk⟩ : ∃ b, t.lk = b := ⟨_, rfl⟩
     rw [hen, hlk]
     rw [hen] at x0
     rw [hlk] at x1
     clear hv hen hlk
     cases en <;> cases lk
     all_goals
      go_enter func130, ntmps130
      go_upto_region 1 with (fail)
      rw [eH]
      generalize w.alloc (oV t) = W at *
      go_wp2_with fail
      go_ret2
      exact ⟨rfl, hB⟩
   all_goals
    go_enter func130, ntmps130
    go_upto_region 1 with (fail)
    rw [eH]
    generalize w.alloc (oV t) = W at *
    go_wp2_with (first | (go_at_call 35; refine (hL.out _).mono ?_; rintro e w' ⟨rfl, rfl⟩))
    go_ret2
    exact ⟨rfl, hB⟩
 . rw [Wd.val_none o0 he]
   cases h4 : (o % 4 != 0)
   . by_cases h8 : 20 <= o
     . rw [aBq h4 h8]
       have q0 : (o == 0) = false := by simp; omega
       have q4 : (o == 4) = false := by simp; omega
       have q8 : (o == 8) = false := by simp; omega
       have q12 : (o == 12) = false := by simp; omega
       have q16 : (o == 16) = false := by simp; omega
       exact wW
     . exact absurd (aD8 h4 (by omega)) he
   . rw [aBr h4]
     exact wW
end Go.Proofs.YtaohacadochldaaGreat.B
