/- A part of the proof of a law of layer 12: ab. -/
import Derived.Test.YtaohacadochldaaGreatZCaa
import Derived.Laws.Rows
import Derived.Laws.CopyRow
import Derived.Deep.Quiet
import Derived.StillTail
set_option linter.unusedVariables false
set_option linter.unusedSimpArgs false
set_option maxHeartbeats 12800000
set_option maxRecDepth 100000
namespace Go.Proofs.YtaohacadochldaaGreat.B
open Go.Proofs.Tryz
open Go.RowKit Go.Sort Go.ChangeShapes Go.WideShapes
section
variable {P : Program}
def eM (cs : Array Value) (o : Nat) (vs : List Value) : Prop := ∀ j v, vs[j]? = some v -> cs[o + j]? = some v
theorem aL (vs : List Value) : eM vs.toArray 0 vs := fun j v h => by simpa using h
theorem lG (xs ys : List Value) : eM (xs ++ ys).toArray 0 xs := fun j v h => by
 have hj : j < xs.length := (List.getElem?_eq_some_iff.1 h).1
 simp [List.getElem?_append_left hj, h]
theorem aCu (xs ys : List Value) (o : Nat) (ho : xs.length = o) : eM (xs ++ ys).toArray o ys := fun j v h => by
 subst ho
 simp [List.getElem?_append_right, h]
theorem fC (w : World) (g o : Nat) (t ty : TypeId) (cs : Array Value) (fr : Nat × Nat) (d : TypeDesc) (vs : List Value) (hg : w.heap[g]? = some (.cells cs t fr))
 (hu : P.underlying ty = some d) (hd : (match d with | .struct _ | .array _ _ => true | _ => false) = true) (hi : (P.info? ty).map (·.size) = some vs.length) (hp : eM cs o vs) :
 (loadVar ty ⟨g, o, none⟩).run P w = .ok (.agg vs.toArray) w := by
 have hl : (loadCells ⟨g, o, none⟩ vs.length).run P w = .ok vs.toArray w :=
  run_loadCells_list (P := P) w ⟨g, o, none⟩ vs (fun j v hv => by
   have hadd : (⟨g, o, none⟩ : Addr).add j = ⟨g, o + j, none⟩ := by unfold Addr.add; split <;> simp_all
   rw [hadd, cell_of_row w g (o + j) cs t fr hg]
   exact hp j v hv)
 cases hq : P.info? ty with
 | none => simp [hq] at hi
 | some i =>
   have hs : i.size = vs.length := by simpa [hq] using hi
   have hagg : (isAgg ty).run P w = .ok true w := by
    unfold isAgg
    rw [Sem.run_bind, run_underlying hu w]
    cases d <;> simp_all
   simp [loadVar, Sem.run_bind, hagg, sizeOf, typeInfo, hq, hs, hl]
def bR (cs : Array Value) (o : Nat) (vs : List Value) : Array Value := (cs.toList.take o ++ vs ++ cs.toList.drop (o + vs.length)).toArray
theorem aW (cs : Array Value) (vs : List Value) (h : cs.size = vs.length) : bR cs 0 vs = vs.toArray := by
 unfold bR
 rw [List.drop_of_length_le (by simp; omega)]
 simp
theorem aAX (xs ys vs : List Value) (h : xs.length = vs.length) : bR (xs ++ ys).toArray 0 vs = (vs ++ ys).toArray := by
 unfold bR; simp [<- h]
theorem vR (xs ys vs : List Value) (o : Nat) (ho : xs.length = o) (h : ys.length = vs.length) : bR (xs ++ ys).toArray o vs = (xs ++ vs).toArray := by
 unfold bR; subst ho; simp [<- h, List.drop_of_length_le]
theorem kT (w : World) (g o : Nat) (t ty : TypeId) (cs : Array Value) (vs : List Value) (hg : w.heap[g]? = some (.cells cs t (0, 0))) (hi : (P.info? ty).map (·.size) = some vs.length)
 (hl : o + vs.length <= cs.size) (h1 : ∀ v ∈ vs, v.oneCell' = true) :
 (storeVar ty ⟨g, o, none⟩ (.agg vs.toArray)).run P w = .ok () (w.setRow g (bR cs o vs)) := by
 have := run_storeCells_at (P := P) g o t vs 0 cs w hg (by simpa using hl) h1
 cases hq : P.info? ty with
 | none => simp [hq] at hi
 | some i =>
   have hs : vs.length = i.size := by simp [hq] at hi; omega
   simp only [Nat.add_zero] at this
   simp [storeVar, sizeOf, typeInfo, hq, Value.cells, hs, this, bR]
theorem qN {o : Oper} {a : Act} {w : World} {K : Act -> World -> Prop} {Q : Exit -> Act -> World -> Prop} (ty : TypeId) (x : Operand) (ho : o.op = .load ty x)
 (g off : Nat) (hx : a.eval x = .pointer (some ⟨g, off, none⟩)) {t : TypeId} {cs : Array Value} {fr : Nat × Nat} (d : TypeDesc) (vs : List Value) (hg : w.heap[g]? = some (.cells cs t fr))
 (hu : P.underlying ty = some d) (hd : (match d with | .struct _ | .array _ _ => true | _ => false) = true) (hi : (P.info? ty).map (·.size) = some vs.length) (hp : eM cs off vs)
 (h : K (a.put o.dst (.agg vs.toArray)) w) : o.wp P a w K Q := by
 unfold Oper.wp execOp
 simp only [ho, hx, Instr.loadAt, Instr.sureAddr, Sem.run_bind, Sem.run_pure, Result.andThen_ok, fC w g off t ty cs fr d vs hg hu hd hi hp]
 exact h
theorem aN {ops : Array Oper} {rest : List Oper} {o : Oper} {a : Act} {w : World} {Q : Exit -> Act -> World -> Prop} (hgd : o.guard = none) (ty : TypeId) (x : Operand) (ho : o.op = .load ty x)
 (g off : Nat) (hx : a.eval x = .pointer (some ⟨g, off, none⟩)) {t : TypeId} {cs : Array Value} {fr : Nat × Nat} (d : TypeDesc) (vs : List Value) (hg : w.heap[g]? = some (.cells cs t fr))
 (hu : P.underlying ty = some d) (hd : (match d with | .struct _ | .array _ _ => true | _ => false) = true) (hi : (P.info? ty).map (·.size) = some vs.length) (hp : eM cs off vs)
 (h : wpList P ops Q rest (a.put o.dst (.agg vs.toArray)) w) : wpList P ops Q (o :: rest) a w :=
 wpList_plain hgd fun _ hK => qN ty x ho g off hx d vs hg hu hd hi hp (hK _ _ h)
theorem dC {ops : Array Oper} {rest : List Oper} {o : Oper} {a : Act} {w : World} {Q : Exit -> Act -> World -> Prop} (ty : TypeId) (x : Operand) (ho : o.op = .load ty x) (hw : Region.wanted o (yielded ops a.tmps) = true)
 (g off : Nat) (hx : a.eval x = .pointer (some ⟨g, off, none⟩)) {t : TypeId} {cs : Array Value} {fr : Nat × Nat} (d : TypeDesc) (vs : List Value) (hg : w.heap[g]? = some (.cells cs t fr))
 (hu : P.underlying ty = some d) (hd : (match d with | .struct _ | .array _ _ => true | _ => false) = true) (hi : (P.info? ty).map (·.size) = some vs.length) (hp : eM cs off vs)
 (h : wpList P ops Q rest (a.put o.dst (.agg vs.toArray)) w) : wpList P ops Q (o :: rest) a w :=
 wpList_step fun _ hK => by rw [if_pos hw]; exact qN ty x ho g off hx d vs hg hu hd hi hp (hK _ _ h)
theorem aJ {ops : Array Oper} {rest : List Oper} {o : Oper} {a : Act} {w : World} {Q : Exit -> Act -> World -> Prop} (hgd : o.guard = none) (ty : TypeId) (x y : Operand) (ho : o.op = .store ty x y)
 (g off : Nat) (hx : a.eval x = .pointer (some ⟨g, off, none⟩)) (vs : List Value) (hy : a.eval y = .agg vs.toArray) {t : TypeId} {cs : Array Value} (hg : w.heap[g]? = some (.cells cs t (0, 0)))
 (hi : (P.info? ty).map (·.size) = some vs.length) (hl : off + vs.length <= cs.size) (h1 : ∀ v ∈ vs, v.oneCell' = true)
 (h : wpList P ops Q rest (a.put o.dst undef) (w.setRow g (bR cs off vs))) : wpList P ops Q (o :: rest) a w :=
 wpList_plain hgd fun _ hK => by
  unfold Oper.wp execOp
  simp only [ho, hx, hy, Instr.storeAt, Instr.sureAddr, Sem.run_bind, Sem.run_pure, Result.andThen_ok, kT w g off t ty cs vs hg hi hl h1]
  exact hK _ _ h
theorem bD {C : World -> Prop} {o : Oper} {a : Act} {K : Act -> Prop} (ty : TypeId) (x : Operand) (ho : o.op = .load ty x)
 (g off : Nat) (hx : a.eval x = .pointer (some ⟨g, off, none⟩)) {t : TypeId} {cs : Array Value} {fr : Nat × Nat} (d : TypeDesc) (vs : List Value) (hg : ∀ w, C w -> w.heap[g]? = some (.cells cs t fr))
 (hu : P.underlying ty = some d) (hd : (match d with | .struct _ | .array _ _ => true | _ => false) = true) (hi : (P.info? ty).map (·.size) = some vs.length) (hp : eM cs off vs)
 (h : K (a.put o.dst (.agg vs.toArray))) : o.quiet P a C K :=
 ⟨_, fun w hw => by
  unfold Oper.quietAt execOp
  simp only [ho, hx, Instr.loadAt, Instr.sureAddr, Sem.run_bind, Sem.run_pure, Result.andThen_ok, fC w g off t ty cs fr d vs (hg w hw) hu hd hi hp]
  exact ⟨rfl, rfl⟩, h⟩
theorem bE {fn : Func} {p q : Tmp} {ty : TypeId} (h : fn.results = #[.cell p ty, .tmp q]) (tmps : Array Value) (w : World) (g off : Nat) {t : TypeId} {cs : Array Value} {fr : Nat × Nat} (d : TypeDesc) (vs : List Value) (y : Value)
 (hp : tmps[p]? = some (.pointer (some ⟨g, off, none⟩))) (hq : tmps[q]? = some y) (hg : w.heap[g]? = some (.cells cs t fr))
 (hu : P.underlying ty = some d) (hd : (match d with | .struct _ | .array _ _ => true | _ => false) = true) (hi : (P.info? ty).map (·.size) = some vs.length) (hpt : eM cs off vs) :
 (results fn tmps).run P w = .ok (.tuple #[.agg vs.toArray, y]) w := by
 simp [results, h, hp, hq, asAddr, fC w g off t ty cs fr d vs hg hu hd hi hpt]
theorem aS {fn : Func} {p : Tmp} {ty : TypeId} (h : fn.results = #[.cell p ty]) (tmps : Array Value) (w : World) (g off : Nat) {t : TypeId} {cs : Array Value} {fr : Nat × Nat} (d : TypeDesc) (vs : List Value)
 (hp : tmps[p]? = some (.pointer (some ⟨g, off, none⟩))) (hg : w.heap[g]? = some (.cells cs t fr))
 (hu : P.underlying ty = some d) (hd : (match d with | .struct _ | .array _ _ => true | _ => false) = true) (hi : (P.info? ty).map (·.size) = some vs.length) (hpt : eM cs off vs) :
 (results fn tmps).run P w = .ok (.agg vs.toArray) w := by
 simp [results, h, hp, asAddr, fC w g off t ty cs fr d vs hg hu hd hi hpt]
end
theorem bZ {w : World} {b : Nat} {o : Obj} (h : w.heap[b]? = some o) : ∀ w', (∃ p : Regrown, w' = grow (redrawn w p.d) p.os) -> w'.heap[b]? = some o := by
 rintro w' ⟨p, rfl⟩
 exact aC (below_regrown w p.d p.os) h (lt_of_block h)
theorem aY {w : World} {g : Nat} {old : Array Value} {t : TypeId} (cs : Array Value) (h : w.heap[g]? = some (.cells old t (0, 0))) : (w.setRow g cs).heap[g]? = some (.cells cs t (0, 0)) := setRow_heap w g old cs t (0, 0) h
theorem eQ {w : World} {b : Nat} {o : Obj} (g : Nat) (cs : Array Value) (h : w.heap[b]? = some o) (hne : b ≠ g) : (w.setRow g cs).heap[b]? = some o := by rw [setRow_other w g b cs hne]; exact h
theorem aB {B : Nat} {w w' : World} (h : Below B w w') {g : Nat} (cs : Array Value) (hg : B <= g) : Below B w (w'.setRow g cs) :=
 ⟨h.os, h.tape, h.output, by simpa using h.size, fun k hk => (setRow_other w' g k cs (by omega)).trans (h.block k hk)⟩
theorem gL (l : List Value) (k : Nat) (v : Value) : l.toArray.setIfInBounds k v = (l.set k v).toArray := by simp
def bl (f : Nat -> Bool) (n : Nat) : List Value := (List.range n).map fun i => .bool (f i)
theorem bI (f : Nat -> Bool) (n : Nat) : (bl f n).length = n := by simp [bl]
theorem rO (f : Nat -> Bool) (n : Nat) : ∀ v ∈ bl f n, v.oneCell' = true := by
 intro v h
 obtain ⟨i, _, rfl⟩ := List.mem_map.1 h
 rfl
theorem rN (f : Nat -> Bool) (n i : Nat) (h : i < n) : (bl f n)[i]? = some (.bool (f i)) := by simp [bl, h]
theorem kF (f g : Nat -> Bool) (n : Nat) (h : ∀ i, i < n -> f i = g i) : bl f n = bl g n := by
 unfold bl
 exact List.map_congr_left fun i hi => by rw [h i (by simpa using hi)]
theorem aCN (f : Nat -> Bool) (n k : Nat) (b : Bool) : (bl f n).set k (.bool b) = bl (fun i => if i = k then b else f i) n := by
 apply List.ext_getElem?
 intro i
 by_cases hi : i < n
 . rw [rN _ _ _ hi, List.getElem?_set]
   by_cases e : k = i
   . subst e; simp [bI, hi]
   . rw [if_neg e, if_neg (fun h => e h.symm), rN _ _ _ hi]
 . rw [List.getElem?_eq_none (by simp [bI]; omega), List.getElem?_eq_none (by simp [bI]; omega)]
def upd (f : Nat -> Int) (h : Nat) (v : Int) : Nat -> Int := fun i => if i = h then v else f i
theorem aAb (f : Nat -> Int) (h : Nat) (v : Int) : upd f h v h = v := by unfold upd; rw [if_pos rfl]
theorem aAd (f : Nat -> Int) {h i : Nat} (v : Int) (hi : i ≠ h) : upd f h v i = f i := by unfold upd; rw [if_neg hi]
theorem aHs (f : Nat -> Int) (h : Nat) : upd f h (f h) = f := by
 funext i; unfold upd; split
 . rename_i e; rw [e]
 . rfl
def il (k : IntKind) (f : Nat -> Int) (n : Nat) : List Value := (List.range n).map fun i => .int k (f i)
theorem cJ (k : IntKind) (f : Nat -> Int) (n : Nat) : (il k f n).length = n := by simp [il]
theorem uB (k : IntKind) (f : Nat -> Int) (n : Nat) : ∀ v ∈ il k f n, v.oneCell' = true := by
 intro v h
 obtain ⟨i, _, rfl⟩ := List.mem_map.1 h
 rfl
theorem pD (k : IntKind) (f : Nat -> Int) (n i : Nat) (h : i < n) : (il k f n)[i]? = some (.int k (f i)) := by simp [il, h]
theorem mW (k : IntKind) (f g : Nat -> Int) (n : Nat) (h : ∀ i, i < n -> f i = g i) : il k f n = il k g n := by
 unfold il
 exact List.map_congr_left fun i hi => by rw [h i (by simpa using hi)]
theorem uC (k : IntKind) (f : Nat -> Int) (n h : Nat) (v : Int) : (il k f n).set h (.int k v) = il k (upd f h v) n := by
 apply List.ext_getElem?
 intro i
 by_cases hi : i < n
 . rw [pD _ _ _ _ hi, List.getElem?_set]
   by_cases e : h = i
   . subst e; simp [cJ, hi, aAb]
   . rw [if_neg e, aAd _ _ (fun h => e h.symm), pD _ _ _ _ hi]
 . rw [List.getElem?_eq_none (by simp [cJ]; omega), List.getElem?_eq_none (by simp [cJ]; omega)]
theorem eI (xs ys : List Value) (n i : Nat) (h : xs.length = n) : (xs ++ ys)[n + i]? = ys[i]? := by
 subst h; rw [List.getElem?_append_right (by omega)]; congr 1; omega
theorem mP (xs ys : List Value) (i : Nat) (h : i < xs.length) : (xs ++ ys)[i]? = xs[i]? := List.getElem?_append_left h
theorem gI (xs ys : List Value) (n i : Nat) (v : Value) (h : xs.length = n) : (xs ++ ys).set (n + i) v = xs ++ ys.set i v := by
 subst h; rw [List.set_append_right _ _ (by omega)]; congr 2; omega
theorem iA (xs ys : List Value) (i : Nat) (v : Value) (h : i < xs.length) : (xs ++ ys).set i v = xs.set i v ++ ys := List.set_append_left _ _ h
theorem ne4 {x : Int} (h : x % 4 = 0) : (x % 4 != 0) = false := by simp [h]
def eR (k h : Int) : Value := .agg #[.int .i64 k, .int .i64 h]
def pM : Nat -> List (Int × Value)
 | 0 => [(49148, eR 4 0), (49144, eR 3 0)]
 | k + 1 => (16384 + 8 * (k : Int) + 4, eR 2 k) :: (16384 + 8 * (k : Int), eR 1 k) :: (4 * (k : Int), eR 0 k) :: pM k
theorem oC (n : Nat) (p : Int × Value) : p ∈ pM n ↔ p = (49148, eR 4 0) \/ p = (49144, eR 3 0) \/ ∃ h : Nat, h < n /\ (p = (16384 + 8 * (h : Int) + 4, eR 2 h) \/ p = (16384 + 8 * (h : Int), eR 1 h) \/ p = (4 * (h : Int), eR 0 h)) := by
 induction n with
 | zero => simp [pM]
 | succ k ih =>
   simp only [pM, List.mem_cons, ih]
   constructor
   . rintro (h | h | h | h | h | ⟨j, hj, h⟩)
     . exact .inr (.inr ⟨k, by omega, .inl h⟩)
     . exact .inr (.inr ⟨k, by omega, .inr (.inl h)⟩)
     . exact .inr (.inr ⟨k, by omega, .inr (.inr h)⟩)
     . exact .inl h
     . exact .inr (.inl h)
     . exact .inr (.inr ⟨j, by omega, h⟩)
   . rintro (h | h | ⟨j, hj, h⟩)
     . exact .inr (.inr (.inr (.inl h)))
     . exact .inr (.inr (.inr (.inr (.inl h))))
     . by_cases e : j = k
       . subst e
         rcases h with h | h | h
         . exact .inl h
         . exact .inr (.inl h)
         . exact .inr (.inr (.inl h))
       . exact .inr (.inr (.inr (.inr (.inr ⟨j, by omega, h⟩))))
theorem aAB (n : Nat) (p : Int × Value) (h : p ∈ pM n) : p.1 = 49148 \/ p.1 = 49144 \/ ∃ h : Nat, h < n /\ (p.1 = 16384 + 8 * (h : Int) + 4 \/ p.1 = 16384 + 8 * (h : Int) \/ p.1 = 4 * (h : Int)) := by
 rcases (oC n p).1 h with rfl | rfl | ⟨j, hj, rfl | rfl | rfl⟩
 . exact .inl rfl
 . exact .inr (.inl rfl)
 . exact .inr (.inr ⟨j, hj, .inl rfl⟩)
 . exact .inr (.inr ⟨j, hj, .inr (.inl rfl)⟩)
 . exact .inr (.inr ⟨j, hj, .inr (.inr rfl)⟩)
inductive At (n : Nat) (o : Int) : Prop
 | odd (h : o % 4 ≠ 0)
 | lo (h : o = 49144)
 | hi (h : o = 49148)
 | soft (h : Nat) (hn : h < n) (e : o = 4 * (h : Int))
 | low (h : Nat) (hn : h < n) (e : o = 16384 + 8 * (h : Int))
 | high (h : Nat) (hn : h < n) (e : o = 16384 + 8 * (h : Int) + 4)
 | none (h4 : o % 4 = 0) (h1 : o ≠ 49144) (h2 : o ≠ 49148) (h : ∀ h : Nat, h < n -> o ≠ 4 * (h : Int) /\ o ≠ 16384 + 8 * (h : Int) /\ o ≠ 16384 + 8 * (h : Int) + 4)
theorem aB9 (n : Nat) (o : Int) : At n o := by
 by_cases h4 : o % 4 = 0
 . by_cases h1 : o = 49144
   . exact .lo h1
   . by_cases h2 : o = 49148
     . exact .hi h2
     . by_cases h : ∃ h : Nat, h < n /\ (o = 4 * (h : Int) \/ o = 16384 + 8 * (h : Int) \/ o = 16384 + 8 * (h : Int) + 4)
       . obtain ⟨j, hj, h | h | h⟩ := h
         . exact .soft j hj h
         . exact .low j hj h
         . exact .high j hj h
       . refine .none h4 h1 h2 fun j hj => ⟨fun e => h ⟨j, hj, .inl e⟩, fun e => h ⟨j, hj, .inr (.inl e)⟩, fun e => h ⟨j, hj, .inr (.inr e)⟩⟩
 . exact .odd h4
theorem aBE (n : Nat) (o : Int) (h1 : o ≠ 49144) (h2 : o ≠ 49148) (h : ∀ h : Nat, h < n -> o ≠ 4 * (h : Int) /\ o ≠ 16384 + 8 * (h : Int) /\ o ≠ 16384 + 8 * (h : Int) + 4) : ∀ p ∈ pM n, p.1 ≠ o := by
 intro p hp e
 rcases aAB n p hp with g | g | ⟨j, hj, g | g | g⟩
 . exact h2 (by rw [<- e, g])
 . exact h1 (by rw [<- e, g])
 . exact (h j hj).2.2 (by rw [<- e, g])
 . exact (h j hj).2.1 (by rw [<- e, g])
 . exact (h j hj).1 (by rw [<- e, g])
def aFc (n : Nat) (o : Int) : Prop := (0 <= o /\ o < 4 * (n : Int)) \/ (16384 <= o /\ o < 16384 + 8 * (n : Int))
instance (n : Nat) (o : Int) : Decidable (aFc n o) := by unfold aFc; exact inferInstance
def gF (n : Nat) (o : Int) : Int := if o % 4 ≠ 0 then 11 else if o = 49144 \/ o = 49148 \/ aFc n o then 0 else 10
def mS (t : Int) (n : Nat) (D S : Nat -> Int) (o : Int) : Int :=
 if gF n o ≠ 0 then 0 else if o = 49144 then lo t else if o = 49148 then hi t else if o < 16384 then S (o / 4).toNat
 else if o % 8 = 0 then lo (D ((o - 16384) / 8).toNat) else hi (D ((o - 16384) / 8).toNat)
def eP (n : Nat) (o : Int) : Int := if gF n o ≠ 0 then gF n o else if 49144 <= o then 12 else 0
def eU (n : Nat) (S : Nat -> Int) (o v : Int) : Nat -> Int := if eP n o = 0 /\ o < 16384 then upd S (o / 4).toNat (v % 2) else S
def eT (n : Nat) (D : Nat -> Int) (o v : Int) : Nat -> Int :=
 if eP n o = 0 /\ 16384 <= o then
  if o % 8 = 0 then upd D ((o - 16384) / 8).toNat (cZ (hi (D ((o - 16384) / 8).toNat)) v) else upd D ((o - 16384) / 8).toNat (cZ v (lo (D ((o - 16384) / 8).toNat)))
 else D
section
variable {t : Int} {n : Nat} {D S : Nat -> Int} {v : Int}
theorem jD {o : Int} (h : o % 4 ≠ 0) : gF n o = 11 := by unfold gF; rw [if_pos h]
theorem qE {o : Int} (o0 : 0 <= o) (h4 : o % 4 = 0) (h1 : o ≠ 49144) (h2 : o ≠ 49148) (h : ∀ h : Nat, h < n -> o ≠ 4 * (h : Int) /\ o ≠ 16384 + 8 * (h : Int) /\ o ≠ 16384 + 8 * (h : Int) + 4) : gF n o = 10 := by
 unfold gF
 rw [if_neg (by omega), if_neg]
 rintro (e | e | e | e)
 . exact h1 e
 . exact h2 e
 . have := (h (o / 4).toNat (by omega)).1; omega
 . have := (h ((o - 16384) / 8).toNat (by omega)).2; omega
theorem pS {o : Int} (h : gF n o ≠ 0) : mS t n D S o = 0 := by unfold mS; rw [if_pos h]
theorem pR {o : Int} (h : gF n o ≠ 0) : eP n o = gF n o := by unfold eP; rw [if_pos h]
theorem iG {o : Int} (h : eP n o ≠ 0) : eU n S o v = S := by unfold eU; rw [if_neg (fun e => h e.1)]
theorem iF {o : Int} (h : eP n o ≠ 0) : eT n D o v = D := by unfold eT; rw [if_neg (fun e => h e.1)]
theorem uK : gF n 49144 = 0 := by unfold gF; simp
theorem uA : gF n 49148 = 0 := by unfold gF; simp
theorem aGa : mS t n D S 49144 = lo t := by unfold mS; rw [if_neg (by rw [uK]; simp), if_pos rfl]
theorem aF6 : mS t n D S 49148 = hi t := by unfold mS; rw [if_neg (by rw [uA]; simp), if_neg (by omega), if_pos rfl]
theorem oD : eP n 49144 = 12 := by unfold eP; rw [if_neg (by rw [uK]; simp), if_pos (by omega)]
theorem nZ : eP n 49148 = 12 := by unfold eP; rw [if_neg (by rw [uA]; simp), if_pos (by omega)]
variable {h : Nat}
theorem nC (hn : h < n) : gF n (4 * (h : Int)) = 0 := by unfold gF; rw [if_neg (by omega), if_pos (.inr (.inr (.inl (by omega))))]
theorem pZ (hn : h < n) : gF n (16384 + 8 * (h : Int)) = 0 := by unfold gF; rw [if_neg (by omega), if_pos (.inr (.inr (.inr (by omega))))]
theorem mV (hn : h < n) : gF n (16384 + 8 * (h : Int) + 4) = 0 := by unfold gF; rw [if_neg (by omega), if_pos (.inr (.inr (.inr (by omega))))]
theorem aBg (hn : h < n) (h8 : n <= 8) : mS t n D S (4 * (h : Int)) = S h := by
 unfold mS; rw [if_neg (by rw [nC hn]; simp), if_neg (by omega), if_neg (by omega), if_pos (by omega)]; congr 1; omega
theorem aDi (hn : h < n) (h8 : n <= 8) : mS t n D S (16384 + 8 * (h : Int)) = lo (D h) := by
 unfold mS; rw [if_neg (by rw [pZ hn]; simp), if_neg (by omega), if_neg (by omega), if_neg (by omega), if_pos (by omega)]; congr 2; omega
theorem aA8 (hn : h < n) (h8 : n <= 8) : mS t n D S (16384 + 8 * (h : Int) + 4) = hi (D h) := by
 unfold mS; rw [if_neg (by rw [mV hn]; simp), if_neg (by omega), if_neg (by omega), if_neg (by omega), if_neg (by omega)]; congr 2; omega
theorem sA (hn : h < n) (h8 : n <= 8) : eP n (4 * (h : Int)) = 0 := by unfold eP; rw [if_neg (by rw [nC hn]; simp), if_neg (by omega)]
theorem qA (hn : h < n) (h8 : n <= 8) : eP n (16384 + 8 * (h : Int)) = 0 := by unfold eP; rw [if_neg (by rw [pZ hn]; simp), if_neg (by omega)]
theorem oA (hn : h < n) (h8 : n <= 8) : eP n (16384 + 8 * (h : Int) + 4) = 0 := by unfold eP; rw [if_neg (by rw [mV hn]; simp), if_neg (by omega)]
theorem yS (hn : h < n) (h8 : n <= 8) : eU n S (4 * (h : Int)) v = upd S h (v % 2) := by
 unfold eU; rw [if_pos ⟨sA hn h8, by omega⟩]; congr 1; omega
theorem yR (hn : h < n) (h8 : n <= 8) : eT n D (4 * (h : Int)) v = D := by unfold eT; rw [if_neg (by omega)]
theorem uN (hn : h < n) : eU n S (16384 + 8 * (h : Int)) v = S := by unfold eU; rw [if_neg (by omega)]
theorem rQ (hn : h < n) : eU n S (16384 + 8 * (h : Int) + 4) v = S := by unfold eU; rw [if_neg (by omega)]
theorem uM (hn : h < n) (h8 : n <= 8) : eT n D (16384 + 8 * (h : Int)) v = upd D h (cZ (hi (D h)) v) := by
 have e : ((16384 + 8 * (h : Int) - 16384) / 8).toNat = h := by omega
 unfold eT; rw [if_pos ⟨qA hn h8, by omega⟩, if_pos (by omega), e]
theorem rP (hn : h < n) (h8 : n <= 8) : eT n D (16384 + 8 * (h : Int) + 4) v = upd D h (cZ v (lo (D h))) := by
 have e : ((16384 + 8 * (h : Int) + 4 - 16384) / 8).toNat = h := by omega
 unfold eT; rw [if_pos ⟨oA hn h8, by omega⟩, if_neg (by omega), e]
end
def okD (D : Nat -> Int) : Prop := ∀ i, 0 <= D i /\ D i < 18446744073709551616
def okS (S : Nat -> Int) : Prop := ∀ i, 0 <= S i /\ S i < 4294967296
theorem okD.upd {D : Nat -> Int} (h : okD D) (k : Nat) {v : Int} (v0 : 0 <= v) (v1 : v < 18446744073709551616) : okD (upd D k v) := fun i => by
 unfold B.upd; split
 . exact ⟨v0, v1⟩
 . exact h i
theorem okS.upd {S : Nat -> Int} (h : okS S) (k : Nat) {v : Int} (v0 : 0 <= v) (v1 : v < 4294967296) : okS (upd S k v) := fun i => by
 unfold B.upd; split
 . exact ⟨v0, v1⟩
 . exact h i
theorem gV {h l : Int} (h0 : 0 <= h) (h1 : h < 4294967296) (l0 : 0 <= l) (l1 : l < 4294967296) : 0 <= cZ h l /\ cZ h l < 18446744073709551616 := by unfold cZ; omega
theorem aAF {h l : Int} (l0 : 0 <= l) (l1 : l < 4294967296) : lo (cZ h l) = l := by unfold lo cZ; omega
theorem zP {h l : Int} (l0 : 0 <= l) (l1 : l < 4294967296) : hi (cZ h l) = h := by unfold hi cZ; omega
theorem kM {a b : Int} (a0 : 0 <= a) (a1 : a < 18446744073709551616) (b0 : 0 <= b) (b1 : b < 18446744073709551616) : 0 <= eF a b /\ eF a b < 18446744073709551616 := by unfold eF; split <;> omega
theorem uV {x : Int} {v : Value} {M : List (Int × Value)} (h : ∀ p ∈ M, p.1 ≠ x) : mZ x v M = (x, v) :: M := by
 unfold mZ
 rw [List.filter_eq_self.2 fun p hp => by simpa using h p hp]
theorem Lo (a : Int) (w : World) (h0 : 0 <= a) (h1 : a < 18446744073709551616) :
 Calls prog 55 #[.int .u64 a] w fun e w' => e = .returned (.int .u32 (lo a)) /\ w = w' := by
 go_enter func55, ntmps55
 go_wp2
 go_ret
 exact ⟨rfl, rfl⟩
theorem aNc (n : Int) (w : World) (h0 : -9223372036854775808 <= n) (h1 : n < 9223372036854775808) :
 Calls prog 188 #[.int .i64 n] w fun e w' => e = .returned (.int .u64 (mask n)) /\ w = w' := by
 by_cases a : n < 0
 . go_enter func188, ntmps188
   go_wp2
   go_ret
   exact ⟨bJ (by unfold mask; rw [if_pos a]), rfl⟩
 . by_cases b : 64 < n
   . go_enter func188, ntmps188
     go_wp2
     go_ret
     exact ⟨bJ (vW n (by omega)), rfl⟩
   . go_enter func188, ntmps188
     go_wp2
     go_ret
     exact ⟨bJ (aE3 n (by omega) (by omega)), rfl⟩
theorem zQ (low width : Int) (w : World) :
 Calls prog 187 #[.int .i64 low, .int .i64 width] w fun e w' => e = .returned (.bool (inw low width)) /\ w = w' := by
 go_enter func187, ntmps187
 go_wp2
 all_goals (go_ret; exact ⟨cU (by unfold inw; first | (simp [*]; done) | (simp; omega)), rfl⟩)
theorem Hi (a : Int) (w : World) (h0 : 0 <= a) (h1 : a < 18446744073709551616) :
 Calls prog 56 #[.int .u64 a] w fun e w' => e = .returned (.int .u32 (hi a)) /\ w = w' := by
 go_enter func56, ntmps56
 go_wp2
 go_ret
 exact ⟨rfl, rfl⟩
theorem aFA (h l : Int) (w : World) (h0 : 0 <= h) (h1 : h < 4294967296) (l0 : 0 <= l) (l1 : l < 4294967296) :
 Calls prog 273 #[.int .u32 h, .int .u32 l] w fun e w' => e = .returned (.int .u64 (cZ h l)) /\ w = w' := by
 go_enter func273, ntmps273
 go_wp2
 go_ret
 exact ⟨bJ (aIu h l h0 h1 l0 l1), rfl⟩
theorem xM {P : Prop} (h : P := by
 go_wp2
 all_goals (go_ret; exact ⟨bJ (by unfold eF; first | rw [if_pos (by assumption)] | rw [if_neg (by omega)]), rfl⟩)
 ) : P := h
theorem Add (a b : Int) (w : World) (h0 : 0 <= a) (h1 : a < 18446744073709551616) (l0 : 0 <= b) (l1 : b < 18446744073709551616) :
 Calls prog 274 #[.int .u64 a, .int .u64 b] w fun e w' => e = .returned (.int .u64 (eF a b)) /\ w = w' := by
 go_enter func274, ntmps274
 exact xM
theorem Field (n low width : Int) (w : World) (h0 : 0 <= n) (h1 : n < 4294967296) (w0 : -9223372036854775808 <= width) (w1 : width < 9223372036854775808) :
 Calls prog 246 #[.int .u32 n, .int .i64 low, .int .i64 width] w fun e w' => e = .returned (.int .u32 (field n low width)) /\ ∃ k, w' = w.drewN k := by
 have m0 := sL width
 have m1 := aDk width
 cases hb : inw low width
 . go_enter func246, ntmps246
   go_wp2_with (go_at_call 187; refine (zQ _ _ _).mono ?_; rintro e w' ⟨rfl, rfl⟩)
   go_ret
   exact ⟨bJ (by unfold field; rw [hb]; rfl), 0, rfl⟩
 . have hl : 0 <= low /\ low < 32 := by unfold inw at hb; simp at hb; omega
   obtain ⟨l0, l1⟩ := hl
   go_enter func246, ntmps246
   go_wp2_with (first | (go_at_call 187; refine (zQ _ _ _).mono ?_; rintro e w' ⟨rfl, rfl⟩))
   go_quiet ((first | (go_at_call 188; exact Calls.quiet_of_same ((aNc _ _ (by omega) (by omega)).mono fun _ _ h => ⟨h.1, h.2.symm⟩)) | (go_at_call 55; exact Calls.quiet_of_same ((Lo _ _ (by omega) (by omega)).mono fun _ _ h => ⟨h.1, h.2.symm⟩))))
   go_wp2
   go_ret
   exact ⟨bJ (aCX n low width h0 h1 hb), nq, rfl⟩
theorem Put (n low width v : Int) (w : World) (h0 : 0 <= n) (h1 : n < 4294967296) (w0 : -9223372036854775808 <= width) (w1 : width < 9223372036854775808) (v0 : 0 <= v) (v1 : v < 4294967296) :
 Calls prog 112 #[.int .u32 n, .int .i64 low, .int .i64 width, .int .u32 v] w fun e w' => e = .returned (.int .u32 (put n low width v)) /\ w = w' := by
 have m0 := sL width
 have m1 := aDk width
 cases hb : inw low width
 . go_enter func112, ntmps112
   go_wp2_with (go_at_call 187; refine (zQ _ _ _).mono ?_; rintro e w' ⟨rfl, rfl⟩)
   go_ret
   exact ⟨bJ (by unfold put; rw [hb]; rfl), rfl⟩
 . have hl : 0 <= low /\ low < 32 := by unfold inw at hb; simp at hb; omega
   obtain ⟨l0, l1⟩ := hl
   go_enter func112, ntmps112
   go_wp2_with (first | (go_at_call 187; refine (zQ _ _ _).mono ?_; rintro e w' ⟨rfl, rfl⟩) | (go_at_call 188; refine (aNc _ _ (by omega) (by omega)).mono ?_; rintro e w' ⟨rfl, rfl⟩) | (go_at_call 55; refine (Lo _ _ (by omega) (by omega)).mono ?_; rintro e w' ⟨rfl, rfl⟩))
   go_ret
   exact ⟨bJ (aG8 n low width v h0 h1 v0 hb), rfl⟩
section
variable {P : Program} {ops : Array Oper} {md : Region.Mode} {C : World -> Prop}
def sJ (P : Program) (md : Region.Mode) (ops : Array Oper) (C : World -> Prop) (n : Nat) (L : Array Bool -> Act -> Prop) : Nat -> Array Bool -> Act -> Prop
 | 0, done, a => L done a
 | f + 1, done, a => Region.ready md ops done ≠ [] /\ ∀ i ∈ Region.ready md ops done, i < n /\ qOp P ops C i (sJ P md ops C n L f (done.setIfInBounds i true)) a
theorem sK {n g : Nat} {L : Array Bool -> Act -> Prop} {Q' : Exit -> Act -> World -> Prop} (hL : ∀ done a w, C w -> L done a -> wpAny P md ops Q' g done a w) (f : Nat) :
 ∀ (done : Array Bool) (a : Act) (w : World), C w -> sJ P md ops C n L f done a -> wpAny P md ops Q' (f + g) done a w := by
 induction f with
 | zero => intro done a w hw h; rw [Nat.zero_add]; exact hL _ _ _ hw h
 | succ f ih =>
   intro done a w hw ⟨h1, h2⟩
   rw [show f + 1 + g = (f + g) + 1 by omega]
   exact ⟨fun h0 => absurd h0 h1, fun i hi => wpOp_of_qOp hw (fun a' w' hw' h' => ih _ a' w' hw' h') (h2 i hi).2⟩
theorem aA6 {n i : Nat} {oi : Oper} {v : Value} {L : Array Bool -> Act -> Prop} (hi : ops[i]? = some oi) (hsel : ∀ (j : Nat) (o : Oper) cs b, ops[j]? = some o -> o.op ≠ .select cs b)
 (hs : Region.sinkB md ops n = true) (hc : Region.chainB md ops n = true) (hn : n < ops.size) (hin : i < n) (hdone : ∀ done a, L done a -> ∀ j ∈ Region.ready md ops done, n <= j) (f : Nat) :
 ∀ (done : Array Bool) (a : Act), HeadInv md ops n done ->
  (∀ j oj, ops[j]? = some oj -> j ≠ i -> done.getD j true = false -> (∀ e ∈ oj.after, Region.binds md e = true -> e.on ≠ i) -> oi.apart ops oj = true) ->
  i ∈ Region.ready md ops done -> YieldsIn P ops C oi v a -> sJ P md ops C n L f (done.setIfInBounds i true) (a.put oi.dst v) -> sJ P md ops C n L (f + 1) done a := by
 have below : ∀ done : Array Bool, HeadInv md ops n done -> i ∈ Region.ready md ops done -> ∀ j ∈ Region.ready md ops done, j < n := fun done inv hr j hj => by
  rcases Nat.lt_or_ge j n with h | h
  . exact h
  . exact absurd hj (tail_waits hs hc hn inv _ i rfl hin (mem_ready.1 hr).1 j h)
 induction f with
 | zero =>
   intro done a inv _ hr hy H
   refine ⟨fun h => (by rw [h] at hr; cases hr), fun j hj => ⟨below done inv hr j hj, ?_⟩⟩
   by_cases e : j = i
   . subst e; exact hy.qOp hi H
   . have := hdone _ _ H j (ready_mono hj e)
     have := below done inv hr j hj
     omega
 | succ f ih =>
   intro done a inv hfree hr hy H
   have hun := (mem_ready.1 hr).1
   refine ⟨fun h => (by rw [h] at hr; cases hr), fun j hj => ⟨below done inv hr j hj, ?_⟩⟩
   by_cases e : j = i
   . subst e; exact hy.qOp hi H
   . obtain ⟨hjun, oj, hoj, hall⟩ := mem_ready.1 hj
     have hnot : ∀ e ∈ oj.after, Region.binds md e = true -> e.on ≠ i := fun e he hb heq => by
      have h1 := hall e he hb
      rw [heq, getD_both hun] at h1
      cases h1
     have hstep := qOp_put hoj (hfree j oj hoj e hjun hnot) (fun cs b => hsel i oi cs b hi) (fun cs b => hsel j oj cs b hoj) hy (H.2 j (ready_mono hj e)).2
     refine qOp_mono (fun a' h3 => ih (done.setIfInBounds j true) a' (inv.set hj (below done inv hr j hj)) ?_ (ready_mono hr (Ne.symm e)) h3.1 ?_) hstep
     . intro k ok hk hki hku hno
       refine hfree k ok hk hki ?_ hno
       by_cases hjk : j = k
       . subst hjk; exact hjun
       . rwa [getD_set_ne true hjk] at hku
     . rw [Array.setIfInBounds_comm _ _ e]; exact h3.2
theorem aEU {n g : Nat} {T : Act -> Prop} (hsel : Region.noSelect ops = true) (hs : Region.sinkB md ops n = true) (hc : Region.chainB md ops n = true) (hn : n < ops.size) (l : List Oper) :
 ∀ (k : Nat) (done : Array Bool) (a : Act), (∀ j, j < l.length -> l[j]? = ops[k + j]?) -> k + l.length = n -> HeadInv md ops n done ->
  Region.lexHead md ops g l.length k done = true -> wpQuiet P ops C T l a -> sJ P md ops C n (fun done' a' => Region.seqB md ops g n done' = true /\ T a') l.length done a := by
 induction l with
 | nil =>
   intro k done a _ hk _ hB h
   obtain rfl : k = n := by simpa using hk
   exact ⟨by simpa [Region.lexHead] using hB, h⟩
 | cons o l ih =>
   intro k done a hl hk inv hB h
   have h0 : ops[k]? = some o := by simpa using (hl 0 (by simp)).symm
   simp only [List.length_cons, Region.lexHead, Bool.and_eq_true] at hB
   obtain ⟨⟨hr, hf⟩, hB'⟩ := hB
   have hkl : k + (l.length + 1) = n := by simpa using hk
   have hr' : k ∈ Region.ready md ops done := by simpa using hr
   have hq : qOp P ops C k (wpQuiet P ops C T l) a := by unfold qOp; simp only [h0]; exact h
   obtain ⟨v, hy, hK⟩ := yieldsIn_of_qOp h0 hq
   refine aA6 h0 (Region.noSelect_spec hsel) hs hc hn (by omega) (fun done' a' hL => seqB_ready hL.1) l.length done a inv (Region.free_spec h0 hf) hr' hy ?_
   exact ih (k + 1) _ _ (fun j hj => by have := hl (j + 1) (by simpa using hj); simpa [Nat.add_assoc, Nat.add_comm 1 j] using this) (by omega) (inv.set hr' (by omega)) hB' hK
theorem nI {id : Nat} {Q : Exit -> Act -> World -> Prop} {a : Act} {w : World} {l : List Oper} (n : Nat) (hm : P.follows .mixedOrders = true) (hB : Region.lexTailB .any l.toArray n = true)
 (hC : C { w with drawn := w.drawn + 1 }) (h : wpQuiet P l.toArray C (fun a' => ∀ w', C w' -> wpList P l.toArray Q (l.drop n) a' w') (l.take n) a) : (Code.region id l.toArray true).wp P Q a w := by
 simp only [Region.lexTailB, Bool.and_eq_true, decide_eq_true_eq] at hB
 obtain ⟨⟨⟨⟨hsel, hn⟩, hs⟩, hc⟩, hlex⟩ := hB
 have hn' : n < l.length := by simpa using hn
 have htl : (l.take n).length = n := by simp; omega
 have hdl : (l.drop n).length = l.toArray.size - n := by simp
 have inv0 : HeadInv .any l.toArray n (Array.replicate l.toArray.size false) :=
  ⟨by simp, fun j oj _ hl => (by rw [getD_replicate_false] at hl; cases hl), fun t _ ht => getD_in (by simpa using ht) (getD_replicate_false _ _)⟩
 have H := aEU (C := C) (md := .any) (g := l.toArray.size - n) hsel hs hc hn (l.take n) 0 _ a (fun j hj => by rw [htl] at hj; simp [hj]) (by simpa using htl) inv0 (by rw [htl]; exact hlex) h
 have key := sK (Q' := Q) (g := l.toArray.size - n) (fun done a' w' hw' hL => by
  have := wpAny_of_seq (md := .any) (Q' := Q) (l.drop n) n done a' w' (fun j => by simp [List.getElem?_drop]) (by rw [hdl]; exact hL.1) (hL.2 w' hw')
  rwa [hdl] at this) _ _ _ _ hC H
 rw [htl, show n + (l.toArray.size - n) = l.toArray.size by omega] at key
 exact wp_region_any hm key
end
theorem aM {P : Program} {id : Nat} {Q : Exit -> Act -> World -> Prop} {a : Act} {w : World} {l : List Oper} (n : Nat) (hm : P.follows .mixedOrders = true) (hB : Region.lexTailB .any l.toArray n = true)
 (h : wpQuiet P l.toArray (fun w' => ∃ p : Regrown, w' = grow (redrawn w p.d) p.os) (fun a' => ∀ w', (∃ p : Regrown, w' = grow (redrawn w p.d) p.os) -> wpList P l.toArray Q (l.drop n) a' w') (l.take n) a) : (Code.region id l.toArray true).wp P Q a w :=
 nI (C := fun w' => ∃ p : Regrown, w' = grow (redrawn w p.d) p.os) n hm hB ⟨⟨w.drawn + 1, #[]⟩, by rw [grow_empty]; rfl⟩ h
end Go.Proofs.YtaohacadochldaaGreat.B
