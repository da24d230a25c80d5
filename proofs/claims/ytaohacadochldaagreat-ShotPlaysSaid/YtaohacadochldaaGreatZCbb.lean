/- A part of the proof of a law of layer 12: bb. -/
import Derived.Test.YtaohacadochldaaGreatZCba
set_option linter.unusedVariables false
set_option linter.unusedSimpArgs false
set_option maxHeartbeats 12800000
set_option maxRecDepth 100000
namespace Go.Proofs.YtaohacadochldaaGreat.B
open Go.Proofs.Tryz
open Go.ChangeShapes Go.WideShapes Go.RowKit Go.Sort
theorem aA9 : (prog.info? 40).map (·.size) = some 110 := by kernel_rfl
abbrev aHk : TypeId := 40
def ml (n : Nat) (x : Bx) (bk ev : Value) : List Value := gC x.ti n x.D x.S ++ ([bk] ++ (vl x.wd ++ (ul x.rs ++ (kl x.rk ++ (bl (aO x.msk) 32 ++ [ev])))))
theorem mA (t : Rs) : (ul t).length = 35 := pJ _ _ _ _
theorem cO (n : Nat) (x : Bx) (bk ev : Value) : (ml n x bk ev).length = 110 := by
 unfold ml
 simp only [List.length_append, fO, mA, bI]
 rfl
theorem xD {P : Prop} (h : P := by
 rw [<- ho, List.getElem?_append_right (by omega), Nat.add_sub_cancel_left, List.getElem?_append_left hj]
 exact h
 ) : P := h
theorem jG (xs ys zs : List Value) (o : Nat) (ho : xs.length = o) : eM (xs ++ (ys ++ zs)).toArray o ys := fun j v h => by
 have hj : j < ys.length := (List.getElem?_eq_some_iff.1 h).1
 simp only [List.getElem?_toArray]
 exact xD
theorem jJ (xs ys zs vs : List Value) (o : Nat) (ho : xs.length = o) (h : ys.length = vs.length) : bR (xs ++ (ys ++ zs)).toArray o vs = (xs ++ (vs ++ zs)).toArray := by
 unfold bR
 subst ho
 congr 1
 simp only [List.take_left, <- h]
 rw [<- List.append_assoc xs ys zs, <- List.length_append, List.drop_left, List.append_assoc]
theorem aD0 (xs ys : List Value) (v u : Value) (o : Nat) (ho : xs.length = o) : (xs ++ ([v] ++ ys)).set o u = xs ++ ([u] ++ ys) := by
 subst ho
 rw [List.set_append_right _ _ (Nat.le_refl _)]
 simp
theorem kO (xs ys zs : List Value) (o j : Nat) (v : Value) (ho : xs.length = o) (h : ys[j]? = some v) : (xs ++ (ys ++ zs))[o + j]? = some v := by
 have hj : j < ys.length := (List.getElem?_eq_some_iff.1 h).1
 exact xD
section
variable (n : Nat) (x : Bx) (bk ev : Value)
theorem aGi : ml n x bk ev = [] ++ (gC x.ti n x.D x.S ++ ([bk] ++ (vl x.wd ++ (ul x.rs ++ (kl x.rk ++ (bl (aO x.msk) 32 ++ [ev])))))) := rfl
theorem aOU : ml n x bk ev = gC x.ti n x.D x.S ++ ([bk] ++ (vl x.wd ++ (ul x.rs ++ (kl x.rk ++ (bl (aO x.msk) 32 ++ [ev]))))) := rfl
theorem aGk : ml n x bk ev = (gC x.ti n x.D x.S ++ [bk]) ++ (vl x.wd ++ (ul x.rs ++ (kl x.rk ++ (bl (aO x.msk) 32 ++ [ev])))) := by unfold ml; simp only [List.append_assoc]
theorem aIr : ml n x bk ev = (gC x.ti n x.D x.S ++ ([bk] ++ vl x.wd)) ++ (ul x.rs ++ (kl x.rk ++ (bl (aO x.msk) 32 ++ [ev]))) := by unfold ml; simp only [List.append_assoc]
theorem aGj : ml n x bk ev = (gC x.ti n x.D x.S ++ ([bk] ++ (vl x.wd ++ ul x.rs))) ++ (kl x.rk ++ (bl (aO x.msk) 32 ++ [ev])) := by unfold ml; simp only [List.append_assoc]
theorem aMD : ml n x bk ev = (gC x.ti n x.D x.S ++ ([bk] ++ (vl x.wd ++ (ul x.rs ++ kl x.rk)))) ++ (bl (aO x.msk) 32 ++ [ev]) := by unfold ml; simp only [List.append_assoc]
theorem aIq : ml n x bk ev = (gC x.ti n x.D x.S ++ ([bk] ++ (vl x.wd ++ (ul x.rs ++ (kl x.rk ++ bl (aO x.msk) 32))))) ++ ([ev] ++ []) := by unfold ml; simp only [List.append_assoc, List.append_nil]
theorem aKM : (gC x.ti n x.D x.S).length = 26 := fO _ _ _ _
theorem aDe : (gC x.ti n x.D x.S ++ [bk]).length = 27 := by simp only [List.length_append, fO]; rfl
theorem aGY : (gC x.ti n x.D x.S ++ ([bk] ++ vl x.wd)).length = 34 := by simp only [List.length_append, fO]; rfl
theorem aDd : (gC x.ti n x.D x.S ++ ([bk] ++ (vl x.wd ++ ul x.rs))).length = 69 := by simp only [List.length_append, fO, mA]; rfl
theorem aKN : (gC x.ti n x.D x.S ++ ([bk] ++ (vl x.wd ++ (ul x.rs ++ kl x.rk)))).length = 77 := by simp only [List.length_append, fO, mA]; rfl
theorem aGX : (gC x.ti n x.D x.S ++ ([bk] ++ (vl x.wd ++ (ul x.rs ++ (kl x.rk ++ bl (aO x.msk) 32))))).length = 109 := by simp only [List.length_append, fO, mA, bI]; rfl
theorem aAG (hb : bk.oneCell' = true) (he : ev.oneCell' = true) : ∀ v ∈ ml n x bk ev, v.oneCell' = true := by
 intro v hv
 unfold ml at hv
 simp only [List.mem_append, List.mem_singleton] at hv
 rcases hv with h | h | h | h | h | h | h
 . exact aDw _ _ _ _ v h
 . rw [h]; exact hb
 . exact aCx _ _ _ _ _ _ _ v h
 . exact aC9 _ _ _ _ v h
 . exact aCb _ _ _ _ _ _ _ _ v h
 . exact rO _ _ v h
 . rw [h]; exact he
end
def eY (w : World) (b n : Nat) (x : Bx) (bk ev : Value) : Prop := w.heap[b]? = some (.cells (ml n x bk ev).toArray aHk (0, 0))
section
variable {w w' : World} {b n : Nat} {x : Bx} {bk ev : Value}
theorem eY.lt (h : eY w b n x bk ev) : b < w.heap.size := lt_of_block h
theorem eY.below (h : eY w b n x bk ev) (hb : Below w.heap.size w w') : eY w' b n x bk ev := aC hb h h.lt
theorem eY.free (h : eY w b n x bk ev) (j : Nat) : w.frozen? ⟨b, j, none⟩ = false := aK h j
theorem eY.get (h : eY w b n x bk ev) (j : Nat) (v : Value) (hj : (ml n x bk ev)[j]? = some v) : w.cell? ⟨b, j, none⟩ = some v := by rw [aA h j, List.getElem?_toArray]; exact hj
theorem eY.cT (h : eY w b n x bk ev) : w.cell? ⟨b, 0, none⟩ = some (.int .u64 x.ti) := h.get 0 _ rfl
theorem eY.cS (h : eY w b n x bk ev) (i : Nat) (hi : i < 8) : w.cell? ⟨b, 17 + i, none⟩ = some (.int .u32 (x.S i)) := h.get _ _ (by rw [aGi]; have := kO [] (gC x.ti n x.D x.S) ([bk] ++ (vl x.wd ++ (ul x.rs ++ (kl x.rk ++ (bl (aO x.msk) 32 ++ [ev]))))) 0 (17 + i) _ rfl (aKe _ _ _ _ _ i hi); rwa [Nat.zero_add] at this)
theorem eY.cN (h : eY w b n x bk ev) : w.cell? ⟨b, 25, none⟩ = some (.int .i64 n) := h.get _ _ (by rw [aGi]; have := kO [] (gC x.ti n x.D x.S) ([bk] ++ (vl x.wd ++ (ul x.rs ++ (kl x.rk ++ (bl (aO x.msk) 32 ++ [ev]))))) 0 25 _ rfl (aKd _ _ _ _ _); rwa [Nat.zero_add] at this)
theorem eY.cB (h : eY w b n x bk ev) : w.cell? ⟨b, 26, none⟩ = some bk := h.get _ _ (by rw [aOU]; exact kO _ [bk] _ 26 0 _ (aKM n x) rfl)
theorem eY.cF (h : eY w b n x bk ev) : w.cell? ⟨b, 33, none⟩ = some (.int .i64 x.wd.fa) := h.get _ _ (by rw [aGk]; exact kO _ (vl x.wd) _ 27 6 _ (aDe n x bk) rfl)
theorem eY.cQ (h : eY w b n x bk ev) : w.cell? ⟨b, 68, none⟩ = some (.bool x.rs.qs) := h.get _ _ (by rw [aIr]; exact kO _ (ul x.rs) _ 34 34 _ (aGY n x bk) (aKn _ _ _ _))
theorem eY.cR (h : eY w b n x bk ev) : w.cell? ⟨b, 76, none⟩ = some (.bool x.rk.st) := h.get _ _ (by rw [aGj]; exact kO _ (kl x.rk) _ 69 7 _ (aDd n x bk) rfl)
theorem eY.cE (h : eY w b n x bk ev) : w.cell? ⟨b, 109, none⟩ = some ev := h.get _ _ (by rw [aIq]; exact kO _ [ev] _ 109 0 _ (aGX n x bk) rfl)
theorem eY.setB (h : eY w b n x bk ev) (v : Value) : eY (w.setCell ⟨b, 26, none⟩ v) b n x v ev := by
 unfold eY
 rw [aR h, gL, aOU, aD0 _ _ _ _ 26 (aKM n x)]
 rfl
theorem eY.setE (h : eY w b n x bk ev) (v : Value) : eY (w.setCell ⟨b, 109, none⟩ v) b n x bk v := by
 unfold eY
 rw [aR h, gL, aIq, aD0 _ _ _ _ 109 (aGX n x bk), <- aIq]
end
structure Fr (w0 w : World) (b r n : Nat) (x : Bx) (bk ev : Value) : Prop where
 h : eY w b n x bk ev
 z : ∃ cs : Array Value, w.heap[r]? = some (.cells cs aHk (0, 0)) /\ cs.size = 110
 lo : Below w0.heap.size w0 w
 hb : w0.heap.size <= b
 hr : w0.heap.size <= r
 ne : b ≠ r
 one : bk.oneCell' = true /\ ev.oneCell' = true
section
variable {w0 w w' : World} {b r n : Nat} {x : Bx} {bk ev : Value}
theorem Fr.below (F : Fr w0 w b r n x bk ev) (hb : Below w.heap.size w w') : Fr w0 w' b r n x bk ev := by
 obtain ⟨cs, h1, h2⟩ := F.z
 exact ⟨F.h.below hb, ⟨cs, aC hb h1 (lt_of_block h1), h2⟩, tr F.lo hb, F.hb, F.hr, F.ne, F.one⟩
theorem Fr.lt (F : Fr w0 w b r n x bk ev) : b < w.heap.size /\ r < w.heap.size := by
 obtain ⟨cs, h1, h2⟩ := F.z
 exact ⟨F.h.lt, lt_of_block h1⟩
theorem Fr.turn {y : Bx} {bk' ev' : Value} (F : Fr w0 w b r n x bk ev) (h : eY w' b n y bk' ev') (ho : aF (· = b) w w') (h1 : bk'.oneCell' = true /\ ev'.oneCell' = true) : Fr w0 w' b r n y bk' ev' := by
 obtain ⟨cs, h2, h3⟩ := F.z
 exact ⟨h, ⟨cs, ho.at h2 (fun e => F.ne e.symm), h3⟩, aF.toBelow F.lo ho (fun k hk e => by have := F.hb; omega) (Nat.le_refl _), F.hb, F.hr, F.ne, h1⟩
theorem Fr.other {S : Nat -> Prop} (F : Fr w0 w b r n x bk ev) (ho : aF S w w') (h1 : ¬ S b) (h2 : ¬ S r) (h3 : ∀ k, k < w0.heap.size -> ¬ S k) : Fr w0 w' b r n x bk ev := by
 obtain ⟨cs, h4, h5⟩ := F.z
 exact ⟨ho.at F.h h1, ⟨cs, ho.at h4 h2, h5⟩, aF.toBelow F.lo ho h3 (Nat.le_refl _), F.hb, F.hr, F.ne, F.one⟩
end
def fN : Obj := .cells #[.int .u64 0, .int .u32 0, .int .u32 0, .int .u32 0, .int .u32 0, .int .u32 0, .int .u32 0, .int .u32 0, .int .u32 0, .int .u32 0, .int .u32 0, .int .u32 0, .int .u32 0, .int .u32 0, .int .u32 0, .int .u32 0, .int .u32 0, .int .u32 0, .int .u32 0, .int .u32 0, .int .u32 0, .int .u32 0, .int .u32 0, .int .u32 0, .int .u32 0, .int .i64 0, .slice none 0 0, .bool false, .bool false, .bool false, .int .u32 0, .int .u32 0, .int .u64 0, .int .i64 0, .bool false, .bool false, .bool false, .bool false, .bool false, .bool false, .bool false, .bool false, .bool false, .bool false, .bool false, .bool false, .bool false, .bool false, .bool false, .bool false, .bool false, .bool false, .bool false, .bool false, .bool false, .bool false, .bool false, .bool false, .bool false, .bool false, .bool false, .bool false, .bool false, .bool false, .bool false, .bool false, .int .i64 0, .int .u32 0, .bool false, .int .u32 0, .int .u32 0, .int .u32 0, .int .u64 0, .int .u32 0, .int .u32 0, .bool false, .bool false, .bool false, .bool false, .bool false, .bool false, .bool false, .bool false, .bool false, .bool false, .bool false, .bool false, .bool false, .bool false, .bool false, .bool false, .bool false, .bool false, .bool false, .bool false, .bool false, .bool false, .bool false, .bool false, .bool false, .bool false, .bool false, .bool false, .bool false, .bool false, .bool false, .bool false, .bool false, .bool false, .slice none 0 0] aHk (0, 0)
theorem eL : Obj.cells zeroCells40 40 (0, 0) = fN := by kernel_rfl
def bV (n : Nat) (x : Bx) (bk ev : Value) : Obj := .cells (ml n x bk ev).toArray aHk (0, 0)
theorem cI (n : Nat) (x : Bx) (bk ev : Value) : Obj.cells (ml n x bk ev).toArray 40 (0, 0) = bV n x bk ev := rfl
theorem iH (w : World) (n : Nat) (x : Bx) (bk ev : Value) (h1 : bk.oneCell' = true /\ ev.oneCell' = true) : Fr w ((w.alloc (bV n x bk ev)).alloc fN) w.heap.size (w.heap.size + 1) n x bk ev :=
 ⟨bM w _ _, ⟨_, bU w _ _, rfl⟩, aE (aE (aH w) _) _, Nat.le_refl _, Nat.le_succ _, Nat.ne_of_lt (Nat.lt_succ_self _), h1⟩
section
variable {ops : Array Oper} {rest : List Oper} {o : Oper} {a : Act} {w : World} {Q : Exit -> Act -> World -> Prop} {b n : Nat} {x : Bx} {bk ev : Value}
theorem pH (hgd : o.guard = none) (y : Operand) (ho : o.op = .load 29 y) (hx : a.eval y = .pointer (some ⟨b, 0, none⟩)) (hg : eY w b n x bk ev)
 (h : wpList prog ops Q rest (a.put o.dst (.agg (gC x.ti n x.D x.S).toArray)) w) : wpList prog ops Q (o :: rest) a w :=
 aN hgd _ y ho b 0 hx _ (gC x.ti n x.D x.S) hg underlying29 rfl (by rw [show (gC x.ti n x.D x.S).length = 26 from fO _ _ _ _]; exact iC) (by rw [aGi]; exact jG [] _ _ 0 rfl) h
theorem kW {P : Prop} (h : P := by
 rw [e]
 exact h _ (F.turn hR ⟨rfl, rfl, rfl, by simp, fun k _ hs => setRow_other w b k _ hs⟩ F.one) ⟨rfl, rfl, rfl, by simp, fun k _ hs => setRow_other w b k _ hs⟩
 ) : P := h
theorem qB (hgd : o.guard = none) (y z : Operand) (ho : o.op = .store 29 y z) (hx : a.eval y = .pointer (some ⟨b, 0, none⟩)) (t : Int) (D S : Nat -> Int) (hy : a.eval z = .agg (gC t n D S).toArray) {w0 : World} {r : Nat} (F : Fr w0 w b r n x bk ev)
 (h : ∀ w', Fr w0 w' b r n { x with ti := t, D := D, S := S } bk ev -> aF (· = b) w w' -> wpList prog ops Q rest (a.put o.dst undef) w') : wpList prog ops Q (o :: rest) a w := by
 have e : bR (ml n x bk ev).toArray 0 (gC t n D S) = (ml n { x with ti := t, D := D, S := S } bk ev).toArray := by rw [aGi, jJ [] _ _ _ 0 rfl (by rw [fO, fO])]; rfl
 have hR : eY (w.setRow b (ml n { x with ti := t, D := D, S := S } bk ev).toArray) b n { x with ti := t, D := D, S := S } bk ev := aY _ F.h
 refine aJ hgd _ y z ho b 0 hx (gC t n D S) hy F.h (by rw [show (gC t n D S).length = 26 from fO _ _ _ _]; exact iC) (by rw [List.size_toArray, cO, show (gC t n D S).length = 26 from fO _ _ _ _]; omega) (aDw _ _ _ _) ?_
 exact kW
theorem uP (hgd : o.guard = none) (y : Operand) (ho : o.op = .load 32 y) (hx : a.eval y = .pointer (some ⟨b, 27, none⟩)) (hg : eY w b n x bk ev)
 (h : wpList prog ops Q rest (a.put o.dst (.agg (vl x.wd).toArray)) w) : wpList prog ops Q (o :: rest) a w :=
 aN hgd _ y ho b 27 hx _ (vl x.wd) hg underlying32 rfl (by rw [show (vl x.wd).length = 7 from (rfl : (vl _).length = 7)]; exact iV) (by rw [aGk]; exact jG _ _ _ 27 (aDe n x bk)) h
theorem qD (hgd : o.guard = none) (y z : Operand) (ho : o.op = .store 32 y z) (hx : a.eval y = .pointer (some ⟨b, 27, none⟩)) (t : Wd) (hy : a.eval z = .agg (vl t).toArray) {w0 : World} {r : Nat} (F : Fr w0 w b r n x bk ev)
 (h : ∀ w', Fr w0 w' b r n { x with wd := t } bk ev -> aF (· = b) w w' -> wpList prog ops Q rest (a.put o.dst undef) w') : wpList prog ops Q (o :: rest) a w := by
 have e : bR (ml n x bk ev).toArray 27 (vl t) = (ml n { x with wd := t } bk ev).toArray := by rw [aGk, jJ _ _ _ _ 27 (aDe n x bk) (show (vl x.wd).length = (vl t).length from rfl), aGk]
 have hR : eY (w.setRow b (ml n { x with wd := t } bk ev).toArray) b n { x with wd := t } bk ev := aY _ F.h
 refine aJ hgd _ y z ho b 27 hx (vl t) hy F.h (by rw [show (vl t).length = 7 from (rfl : (vl _).length = 7)]; exact iV) (by rw [List.size_toArray, cO, show (vl t).length = 7 from (rfl : (vl _).length = 7)]; omega) (aCx _ _ _ _ _ _ _) ?_
 exact kW
theorem aAH (hgd : o.guard = none) (y : Operand) (ho : o.op = .load 35 y) (hx : a.eval y = .pointer (some ⟨b, 34, none⟩)) (hg : eY w b n x bk ev)
 (h : wpList prog ops Q rest (a.put o.dst (.agg (ul x.rs).toArray)) w) : wpList prog ops Q (o :: rest) a w :=
 aN hgd _ y ho b 34 hx _ (ul x.rs) hg underlying35 rfl (by rw [show (ul x.rs).length = 35 from mA _]; exact iR9) (by rw [aIr]; exact jG _ _ _ 34 (aGY n x bk)) h
theorem aAJ (hgd : o.guard = none) (y z : Operand) (ho : o.op = .store 35 y z) (hx : a.eval y = .pointer (some ⟨b, 34, none⟩)) (t : Rs) (hy : a.eval z = .agg (ul t).toArray) {w0 : World} {r : Nat} (F : Fr w0 w b r n x bk ev)
 (h : ∀ w', Fr w0 w' b r n { x with rs := t } bk ev -> aF (· = b) w w' -> wpList prog ops Q rest (a.put o.dst undef) w') : wpList prog ops Q (o :: rest) a w := by
 have e : bR (ml n x bk ev).toArray 34 (ul t) = (ml n { x with rs := t } bk ev).toArray := by rw [aIr, jJ _ _ _ _ 34 (aGY n x bk) (by rw [mA, mA]), aIr]
 have hR : eY (w.setRow b (ml n { x with rs := t } bk ev).toArray) b n { x with rs := t } bk ev := aY _ F.h
 refine aJ hgd _ y z ho b 34 hx (ul t) hy F.h (by rw [show (ul t).length = 35 from mA _]; exact iR9) (by rw [List.size_toArray, cO, show (ul t).length = 35 from mA _]; omega) (aC9 _ _ _ _) ?_
 exact kW
theorem rW (hgd : o.guard = none) (y : Operand) (ho : o.op = .load 37 y) (hx : a.eval y = .pointer (some ⟨b, 69, none⟩)) (hg : eY w b n x bk ev)
 (h : wpList prog ops Q rest (a.put o.dst (.agg (kl x.rk).toArray)) w) : wpList prog ops Q (o :: rest) a w :=
 aN hgd _ y ho b 69 hx _ (kl x.rk) hg underlying37 rfl (by rw [show (kl x.rk).length = 8 from (rfl : (kl _).length = 8)]; exact iK) (by rw [aGj]; exact jG _ _ _ 69 (aDd n x bk)) h
theorem qC (hgd : o.guard = none) (y z : Operand) (ho : o.op = .store 37 y z) (hx : a.eval y = .pointer (some ⟨b, 69, none⟩)) (t : Rk) (hy : a.eval z = .agg (kl t).toArray) {w0 : World} {r : Nat} (F : Fr w0 w b r n x bk ev)
 (h : ∀ w', Fr w0 w' b r n { x with rk := t } bk ev -> aF (· = b) w w' -> wpList prog ops Q rest (a.put o.dst undef) w') : wpList prog ops Q (o :: rest) a w := by
 have e : bR (ml n x bk ev).toArray 69 (kl t) = (ml n { x with rk := t } bk ev).toArray := by rw [aGj, jJ _ _ _ _ 69 (aDd n x bk) (show (kl x.rk).length = (kl t).length from rfl), aGj]
 have hR : eY (w.setRow b (ml n { x with rk := t } bk ev).toArray) b n { x with rk := t } bk ev := aY _ F.h
 refine aJ hgd _ y z ho b 69 hx (kl t) hy F.h (by rw [show (kl t).length = 8 from (rfl : (kl _).length = 8)]; exact iK) (by rw [List.size_toArray, cO, show (kl t).length = 8 from (rfl : (kl _).length = 8)]; omega) (aCb _ _ _ _ _ _ _ _) ?_
 exact kW
theorem aMK (hgd : o.guard = none) (y : Operand) (ho : o.op = .load 33 y) (hx : a.eval y = .pointer (some ⟨b, 77, none⟩)) (hg : eY w b n x bk ev)
 (h : wpList prog ops Q rest (a.put o.dst (.agg (bl (aO x.msk) 32).toArray)) w) : wpList prog ops Q (o :: rest) a w :=
 aN hgd _ y ho b 77 hx _ (bl (aO x.msk) 32) hg underlying33 rfl (by rw [show (bl (aO x.msk) 32).length = 32 from bI _ _]; exact i25) (by rw [aMD]; exact jG _ _ _ 77 (aKN n x bk)) h
theorem aAI (hgd : o.guard = none) (y z : Operand) (ho : o.op = .store 33 y z) (hx : a.eval y = .pointer (some ⟨b, 77, none⟩)) (m : Int) (hy : a.eval z = .agg (bl (aO m) 32).toArray) {w0 : World} {r : Nat} (F : Fr w0 w b r n x bk ev)
 (h : ∀ w', Fr w0 w' b r n { x with msk := m } bk ev -> aF (· = b) w w' -> wpList prog ops Q rest (a.put o.dst undef) w') : wpList prog ops Q (o :: rest) a w := by
 have e : bR (ml n x bk ev).toArray 77 (bl (aO m) 32) = (ml n { x with msk := m } bk ev).toArray := by rw [aMD, jJ _ _ _ _ 77 (aKN n x bk) (by rw [bI, bI]), aMD]
 have hR : eY (w.setRow b (ml n { x with msk := m } bk ev).toArray) b n { x with msk := m } bk ev := aY _ F.h
 refine aJ hgd _ y z ho b 77 hx (bl (aO m) 32) hy F.h (by rw [show (bl (aO m) 32).length = 32 from bI _ _]; exact i25) (by rw [List.size_toArray, cO, show (bl (aO m) 32).length = 32 from bI _ _]; omega) (rO _ _) ?_
 exact kW
theorem dU (hgd : o.guard = none) (y : Operand) (ho : o.op = .load 40 y) (hx : a.eval y = .pointer (some ⟨b, 0, none⟩)) (hg : eY w b n x bk ev)
 (h : wpList prog ops Q rest (a.put o.dst (.agg (ml n x bk ev).toArray)) w) : wpList prog ops Q (o :: rest) a w :=
 aN hgd _ y ho b 0 hx _ (ml n x bk ev) hg underlying40 rfl (by rw [cO]; exact aA9) (aL _) h
theorem nU {P : Prop} (h : P := by
 exact h _ hR ⟨rfl, rfl, rfl, by simp, fun k _ hs => setRow_other w b k _ hs⟩
 ) : P := h
theorem dX (hgd : o.guard = none) (y z : Operand) (ho : o.op = .store 40 y z) (hx : a.eval y = .pointer (some ⟨b, 0, none⟩)) (x' : Bx) (bk' ev' : Value) (n' : Nat) (hy : a.eval z = .agg (ml n' x' bk' ev').toArray) {cs : Array Value} (hg : w.heap[b]? = some (.cells cs aHk (0, 0))) (hl : cs.size = 110) (h1 : bk'.oneCell' = true /\ ev'.oneCell' = true)
 (h : ∀ w', eY w' b n' x' bk' ev' -> aF (· = b) w w' -> wpList prog ops Q rest (a.put o.dst undef) w') : wpList prog ops Q (o :: rest) a w := by
 have hR : eY (w.setRow b (ml n' x' bk' ev').toArray) b n' x' bk' ev' := aY _ hg
 refine aJ hgd _ y z ho b 0 hx (ml n' x' bk' ev') hy hg (by rw [cO]; exact aA9) (by rw [cO, hl]; omega) (aAG n' x' bk' ev' h1.1 h1.2) ?_
 rw [aW _ _ (by rw [hl, cO])]
 exact nU
end
theorem aJA {fn : Func} {p : Tmp} (h : fn.results = #[.cell p 40]) (tmps : Array Value) (w : World) {b n : Nat} {x : Bx} {bk ev : Value} (hp : tmps[p]? = some (.pointer (some ⟨b, 0, none⟩))) (hg : eY w b n x bk ev) :
 (results fn tmps).run prog w = .ok (.agg (ml n x bk ev).toArray) w :=
 aS h tmps w b 0 _ (ml n x bk ev) hp hg underlying40 rfl (by rw [cO]; exact aA9) (aL _)
theorem aOt {fn : Func} {p q : Tmp} (h : fn.results = #[.cell p 40, .tmp q]) (tmps : Array Value) (w : World) {b n : Nat} {x : Bx} {bk ev : Value} (y : Value) (hp : tmps[p]? = some (.pointer (some ⟨b, 0, none⟩))) (hq : tmps[q]? = some y) (hg : eY w b n x bk ev) :
 (results fn tmps).run prog w = .ok (.tuple #[.agg (ml n x bk ev).toArray, y]) w :=
 bE h tmps w b 0 _ (ml n x bk ev) y hp hq hg underlying40 rfl (by rw [cO]; exact aA9) (aL _)
theorem aCz (h t : Int) (n : Nat) (D S : Nat -> Int) (w : World) (n8 : n <= 8) (hD : okD D) :
 Calls prog 18 #[.agg (gC t n D S).toArray, .int .i64 h] w fun e w' => e = .returned (.bool (oR t n D h)) /\ Below w.heap.size w w' := by
 have cC := Hd (fun w => yN h t n D S w n8 hD)
 unfold gC
 have h0 : bK (w.alloc (.cells (dV t n (fun i => lo (D i)) (fun i => hi (D i)) S).toArray 29)) w.heap.size t n (fun i => lo (D i)) (fun i => hi (D i)) S := aD w _
 have hb := aE (aH w) (.cells (dV t n (fun i => lo (D i)) (fun i => hi (D i)) S).toArray 29)
 have hl := h0.lt
 have cN := h0.cN
 have cT := h0.cT
 have hg := bC
 cases hq : dT n h
 . rw [show oR t n D h = false by unfold oR; rw [hq]; rfl]
   have hh : ¬ (0 <= h /\ h < (n : Int)) := by unfold dT at hq; simpa using hq
   by_cases hz : 0 <= h
   . have q0 : decide (0 <= h) = true := decide_eq_true hz
     have q1 : decide (h < (n : Int)) = false := decide_eq_false (fun e => hh ⟨hz, e⟩)
     go_enter func18, ntmps18
     go_upto_region 1 with (fail)
     generalize (w.alloc (.cells (dV t n (fun i => lo (D i)) (fun i => hi (D i)) S).toArray 29)) = W at *
     clear h0 hh hq
     go_wp2_with fail
     exact nV
   . have q0 : decide (0 <= h) = false := decide_eq_false hz
     go_enter func18, ntmps18
     go_upto_region 1 with (fail)
     generalize (w.alloc (.cells (dV t n (fun i => lo (D i)) (fun i => hi (D i)) S).toArray 29)) = W at *
     clear h0 hh hq
     go_wp2_with fail
     exact nV
 . have hh : 0 <= h /\ h < (n : Int) := by unfold dT at hq; simpa using hq
   obtain ⟨k, rfl⟩ := Int.eq_ofNat_of_zero_le hh.1
   rw [show oR t n D (k : Int) = decide (D k <= t) by unfold oR; rw [hq]; rfl]
   have e : oL n D (k : Int) = D k := by unfold oL; rw [if_pos hq]; rfl
   have cC2 := Hd (fun w => by have := cC.out w; rw [e] at this; exact this)
   have hkn : (k : Int) < n := hh.2
   have q0 : decide ((0 : Int) <= (k : Int)) = true := decide_eq_true (by omega)
   have q1 : decide ((k : Int) < (n : Int)) = true := decide_eq_true hkn
   clear hq hh e cC
   unfold gC at cC2
   go_enter func18, ntmps18
   go_upto_region 1 with (fail)
   generalize (w.alloc (.cells (dV t n (fun i => lo (D i)) (fun i => hi (D i)) S).toArray 29)) = W at *
   have HB := Hd h0
   clear h0
   go_wp2_with fail
   refine wp_region_quiet_below (by kernel_rfl) (by kernel_rfl) ?_
   repeat (first
    | go_big_quiet_skip
    | (go_big_quiet_want; first
        | (refine aMd (.tmp 2) rfl rfl (bZ HB.out) ?_; go_simp; go_big_quiet_on)
        | (go_big_quiet_op; first
            | go_big_quiet_on
            | go_big_quiet_call (first | (go_at_call 46; exact Calls.regrown_of (cC2.out _))))))
   refine wpQuiet_nil ?_
   intro _ hw'
   obtain ⟨⟨dq, osq⟩, hw''⟩ := hw'
   subst hw''
   go_wp2_with fail
   go_ret
   exact ⟨rfl, trG hb _ _⟩
theorem rZ (o t : Int) (n : Nat) (D S : Nat -> Int) (w : World) (n8 : n <= 8) (hD : okD D) (t0 : 0 <= t) (t1 : t < 18446744073709551616) (o0 : 0 <= o) (o1 : o < 4294967296) :
 Calls prog 128 #[.agg (gC t n D S).toArray, .int .u32 o] w fun e w' => e = .returned (.tuple #[.int .u32 (mS t n D S o), .int .i64 (gF n o)]) /\ Below w.heap.size w w' := by
 unfold gC
 have h0 : bK (w.alloc (.cells (dV t n (fun i => lo (D i)) (fun i => hi (D i)) S).toArray 29)) w.heap.size t n (fun i => lo (D i)) (fun i => hi (D i)) S := aD w _
 have hb := aE (aH w) (.cells (dV t n (fun i => lo (D i)) (fun i => hi (D i)) S).toArray 29)
 have hl := h0.lt
 have cN := h0.cN
 have cT := h0.cT
 by_cases h4 : o % 4 = 0
 . have n4 : (o % 4 != 0) = false := ne4 h4
   by_cases e1 : o = 49144
   . subst e1
     rw [aGa, uK]
     go_enter func128, ntmps128
     go_wp2_with (first | (go_at_call 35; refine (rLo _ _ t0 t1).mono ?_; rintro e w' ⟨rfl, rfl⟩))
     go_ret2
     exact ⟨rfl, hb⟩
   . by_cases e2 : o = 49148
     . subst e2
       rw [aF6, uA]
       go_enter func128, ntmps128
       go_wp2_with (first | (go_at_call 34; refine (rHi _ _ t0 t1).mono ?_; rintro e w' ⟨rfl, rfl⟩))
       go_ret2
       exact ⟨rfl, hb⟩
     . have b1 : (o == 49144) = false := by simpa using e1
       have b2 : (o == 49148) = false := by simpa using e2
       obtain ⟨V, hV⟩ : ∃ V, mS t n D S o = V := ⟨_, rfl⟩
       obtain ⟨E, hE⟩ : ∃ E, gF n o = E := ⟨_, rfl⟩
       rw [hV, hE]
       have HV := Hd hV
       have HE := Hd hE
       have H1 := Hd e1
       have H2 := Hd e2
       clear hV hE e1 e2
       go_enter func128, ntmps128
       go_upto_region 8 with (fail)
       generalize (w.alloc (.cells (dV t n (fun i => lo (D i)) (fun i => hi (D i)) S).toArray 29)) = W at *
       have H0 := Hd h0
       clear h0
       go_loop [6] (fun i => ∃ k : Nat, k <= n /\ i = .int .i64 k /\ Hid (∀ j : Nat, j < k -> o ≠ 4 * (j : Int) /\ o ≠ 16384 + 8 * (j : Int) /\ o ≠ 16384 + 8 * (j : Int) + 4)) (fun i => n - (intOf i).toNat)
       case atStart => exact ⟨0, by omega, rfl, Hd fun j hj => by omega⟩
       case round =>
        obtain ⟨k, hk, rfl, HN⟩ := hrel
        by_cases hlt : k < n
        . have hk8 : k < 8 := by omega
          have cL := H0.out.cL k hk8
          have cH := H0.out.cH k hk8
          have cS := H0.out.cS k hk8
          by_cases g1 : o = 4 * (k : Int)
          . have HV2 := Hd (show V = S k by rw [<- HV.out, g1, aBg hlt n8])
            have HE2 := Hd (show E = 0 by rw [<- HE.out, g1, nC hlt])
            have q1 : (o == 4 * (k : Int)) = true := by simpa using g1
            clear g1
            go_wp2_with fail
            go_ret2
            exact ⟨by rw [HV2.out, HE2.out]; rfl, hb⟩
          . have q1 : (o == 4 * (k : Int)) = false := by simpa using g1
            by_cases g2 : o = 16384 + 8 * (k : Int)
            . have HV2 := Hd (show V = lo (D k) by rw [<- HV.out, g2, aDi hlt n8])
              have HE2 := Hd (show E = 0 by rw [<- HE.out, g2, pZ hlt])
              have q2 : (o == 16384 + 8 * (k : Int)) = true := by simpa using g2
              clear g1 g2
              go_wp2_with fail
              go_ret2
              exact ⟨by rw [HV2.out, HE2.out]; rfl, hb⟩
            . have q2 : (o == 16384 + 8 * (k : Int)) = false := by simpa using g2
              by_cases g3 : o = 16384 + 8 * (k : Int) + 4
              . have HV2 := Hd (show V = hi (D k) by rw [<- HV.out, g3, aA8 hlt n8])
                have HE2 := Hd (show E = 0 by rw [<- HE.out, g3, mV hlt])
                have q3 : (o == 16388 + 8 * (k : Int)) = true := by simp; omega
                clear g1 g2 g3
                go_wp2_with fail
                go_ret2
                exact ⟨by rw [HV2.out, HE2.out]; rfl, hb⟩
              . have q3 : (o == 16388 + 8 * (k : Int)) = false := by simp; omega
                have HN2 := Hd (show ∀ j : Nat, j < k + 1 -> o ≠ 4 * (j : Int) /\ o ≠ 16384 + 8 * (j : Int) /\ o ≠ 16384 + 8 * (j : Int) + 4 from fun j hj => by
                 by_cases e : j = k
                 . subst e; exact ⟨g1, g2, g3⟩
                 . exact HN.out j (by omega))
                clear g1 g2 g3
                go_wp2_with fail
                go_round
                case rel => exact ⟨k + 1, by omega, by go_num, HN2⟩
                case measure => simp [intOf]; omega
        . obtain rfl : k = n := by omega
          have he := qE (n := k) o0 h4 H1.out H2.out HN.out
          have HE2 := Hd (show E = 10 by rw [<- HE.out, he])
          have HV2 := Hd (show V = 0 by rw [<- HV.out, pS (by rw [he]; omega)])
          clear he
          go_wp2_with fail
          go_ret2
          exact ⟨by rw [HV2.out, HE2.out]; rfl, hb⟩
 . have n4 : (o % 4 != 0) = true := by simpa using h4
   rw [jD h4, pS (by rw [jD h4]; omega)]
   go_enter func128, ntmps128
   go_wp2_with fail
   go_ret2
   exact ⟨rfl, hb⟩
end Go.Proofs.YtaohacadochldaaGreat.B
