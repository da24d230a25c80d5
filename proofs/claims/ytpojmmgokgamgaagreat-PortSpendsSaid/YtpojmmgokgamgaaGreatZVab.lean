/- Several texts in one: Rows and parts of rows, by value: a whole array (or struct) read out of a block that is known whole, and stored into a part .. -/
import Derived.Test.YtpojmmgokgamgaaGreatZVaa
import Derived.Laws.Rows
import Derived.Laws.CopyRow
import Derived.Deep.Quiet
import Derived.Lib.QuietBelow
import Derived.Deep.QuietTactic
import Derived.BigQuiet
import Derived.StillTail
set_option linter.unusedVariables false
set_option linter.unusedSimpArgs false
namespace Go.Proofs.YtpojmmgokgamgaaGreat.B
open Go.RowKit Go.Sort
section
variable {P : Program}
def PartAt (cs : Array Value) (o : Nat) (vs : List Value) : Prop := ∀ j v, vs[j]? = some v -> cs[o + j]? = some v
theorem part_all (vs : List Value) : PartAt vs.toArray 0 vs := fun j v h => by simpa using h
theorem loadVar_part (w : World) (g o : Nat) (t ty : TypeId) (cs : Array Value) (fr : Nat × Nat) (d : TypeDesc) (vs : List Value) (hg : w.heap[g]? = some (.cells cs t fr))
 (hu : P.underlying ty = some d) (hd : (match d with | .struct _ | .array _ _ => true | _ => false) = true) (hi : (P.info? ty).map (·.size) = some vs.length) (hp : PartAt cs o vs) :
 (loadVar ty ⟨g, o, none⟩).run P w = .ok (.agg vs.toArray) w := by
 have hl : (loadCells ⟨g, o, none⟩ vs.length).run P w = .ok vs.toArray w :=
  run_loadCells_list (P := P) w ⟨g, o, none⟩ vs (fun j v hv => by
   have hadd : (⟨g, o, none⟩ : Addr).add j = ⟨g, o + j, none⟩ := by unfold Addr.add; split <;> simp_all
   rw [hadd, cell_of_row w g (o + j) cs t fr hg]
   exact hp j v hv)
 cases hq : P.info? ty with
 | none => simp [hq] at hi
 | some i =>
   have hs : i.size = vs.length := by simpa [hq] using hi
   have hagg : (isAgg ty).run P w = .ok true w := by
    unfold isAgg
    rw [Sem.run_bind, run_underlying hu w]
    cases d <;> simp_all
   simp [loadVar, Sem.run_bind, hagg, sizeOf, typeInfo, hq, hs, hl]
def spliced (cs : Array Value) (o : Nat) (vs : List Value) : Array Value := (cs.toList.take o ++ vs ++ cs.toList.drop (o + vs.length)).toArray
theorem spliced_all (cs : Array Value) (vs : List Value) (h : cs.size = vs.length) : spliced cs 0 vs = vs.toArray := by
 unfold spliced
 rw [List.drop_of_length_le (by simp; omega)]
 simp
theorem storeVar_part (w : World) (g o : Nat) (t ty : TypeId) (cs : Array Value) (vs : List Value) (hg : w.heap[g]? = some (.cells cs t (0, 0))) (hi : (P.info? ty).map (·.size) = some vs.length)
 (hl : o + vs.length <= cs.size) (h1 : ∀ v ∈ vs, v.oneCell' = true) :
 (storeVar ty ⟨g, o, none⟩ (.agg vs.toArray)).run P w = .ok () (w.setRow g (spliced cs o vs)) := by
 have := run_storeCells_at (P := P) g o t vs 0 cs w hg (by simpa using hl) h1
 cases hq : P.info? ty with
 | none => simp [hq] at hi
 | some i =>
   have hs : vs.length = i.size := by simp [hq] at hi; omega
   simp only [Nat.add_zero] at this
   simp [storeVar, sizeOf, typeInfo, hq, Value.cells, hs, this, spliced]
theorem wp_load_part {o : Oper} {a : Act} {w : World} {K : Act -> World -> Prop} {Q : Exit -> Act -> World -> Prop} (ty : TypeId) (x : Operand) (ho : o.op = .load ty x)
 (g off : Nat) (hx : a.eval x = .pointer (some ⟨g, off, none⟩)) {t : TypeId} {cs : Array Value} {fr : Nat × Nat} (d : TypeDesc) (vs : List Value) (hg : w.heap[g]? = some (.cells cs t fr))
 (hu : P.underlying ty = some d) (hd : (match d with | .struct _ | .array _ _ => true | _ => false) = true) (hi : (P.info? ty).map (·.size) = some vs.length) (hp : PartAt cs off vs)
 (h : K (a.put o.dst (.agg vs.toArray)) w) : o.wp P a w K Q := by
 unfold Oper.wp execOp
 simp only [ho, hx, Instr.loadAt, Instr.sureAddr, Sem.run_bind, Sem.run_pure, Result.andThen_ok, loadVar_part w g off t ty cs fr d vs hg hu hd hi hp]
 exact h
theorem wpList_load_part {ops : Array Oper} {rest : List Oper} {o : Oper} {a : Act} {w : World} {Q : Exit -> Act -> World -> Prop} (hgd : o.guard = none) (ty : TypeId) (x : Operand) (ho : o.op = .load ty x)
 (g off : Nat) (hx : a.eval x = .pointer (some ⟨g, off, none⟩)) {t : TypeId} {cs : Array Value} {fr : Nat × Nat} (d : TypeDesc) (vs : List Value) (hg : w.heap[g]? = some (.cells cs t fr))
 (hu : P.underlying ty = some d) (hd : (match d with | .struct _ | .array _ _ => true | _ => false) = true) (hi : (P.info? ty).map (·.size) = some vs.length) (hp : PartAt cs off vs)
 (h : wpList P ops Q rest (a.put o.dst (.agg vs.toArray)) w) : wpList P ops Q (o :: rest) a w :=
 wpList_plain hgd fun _ hK => wp_load_part ty x ho g off hx d vs hg hu hd hi hp (hK _ _ h)
theorem wpList_load_part_g {ops : Array Oper} {rest : List Oper} {o : Oper} {a : Act} {w : World} {Q : Exit -> Act -> World -> Prop} (ty : TypeId) (x : Operand) (ho : o.op = .load ty x) (hw : Region.wanted o (yielded ops a.tmps) = true)
 (g off : Nat) (hx : a.eval x = .pointer (some ⟨g, off, none⟩)) {t : TypeId} {cs : Array Value} {fr : Nat × Nat} (d : TypeDesc) (vs : List Value) (hg : w.heap[g]? = some (.cells cs t fr))
 (hu : P.underlying ty = some d) (hd : (match d with | .struct _ | .array _ _ => true | _ => false) = true) (hi : (P.info? ty).map (·.size) = some vs.length) (hp : PartAt cs off vs)
 (h : wpList P ops Q rest (a.put o.dst (.agg vs.toArray)) w) : wpList P ops Q (o :: rest) a w :=
 wpList_step fun _ hK => by rw [if_pos hw]; exact wp_load_part ty x ho g off hx d vs hg hu hd hi hp (hK _ _ h)
theorem wpList_store_part {ops : Array Oper} {rest : List Oper} {o : Oper} {a : Act} {w : World} {Q : Exit -> Act -> World -> Prop} (hgd : o.guard = none) (ty : TypeId) (x y : Operand) (ho : o.op = .store ty x y)
 (g off : Nat) (hx : a.eval x = .pointer (some ⟨g, off, none⟩)) (vs : List Value) (hy : a.eval y = .agg vs.toArray) {t : TypeId} {cs : Array Value} (hg : w.heap[g]? = some (.cells cs t (0, 0)))
 (hi : (P.info? ty).map (·.size) = some vs.length) (hl : off + vs.length <= cs.size) (h1 : ∀ v ∈ vs, v.oneCell' = true)
 (h : wpList P ops Q rest (a.put o.dst undef) (w.setRow g (spliced cs off vs))) : wpList P ops Q (o :: rest) a w :=
 wpList_plain hgd fun _ hK => by
  unfold Oper.wp execOp
  simp only [ho, hx, hy, Instr.storeAt, Instr.sureAddr, Sem.run_bind, Sem.run_pure, Result.andThen_ok, storeVar_part w g off t ty cs vs hg hi hl h1]
  exact hK _ _ h
theorem quiet_load_part {C : World -> Prop} {o : Oper} {a : Act} {K : Act -> Prop} (ty : TypeId) (x : Operand) (ho : o.op = .load ty x)
 (g off : Nat) (hx : a.eval x = .pointer (some ⟨g, off, none⟩)) {t : TypeId} {cs : Array Value} {fr : Nat × Nat} (d : TypeDesc) (vs : List Value) (hg : ∀ w, C w -> w.heap[g]? = some (.cells cs t fr))
 (hu : P.underlying ty = some d) (hd : (match d with | .struct _ | .array _ _ => true | _ => false) = true) (hi : (P.info? ty).map (·.size) = some vs.length) (hp : PartAt cs off vs)
 (h : K (a.put o.dst (.agg vs.toArray))) : o.quiet P a C K :=
 ⟨_, fun w hw => by
  unfold Oper.quietAt execOp
  simp only [ho, hx, Instr.loadAt, Instr.sureAddr, Sem.run_bind, Sem.run_pure, Result.andThen_ok, loadVar_part w g off t ty cs fr d vs (hg w hw) hu hd hi hp]
  exact ⟨rfl, rfl⟩, h⟩
theorem results_cell_slot {fn : Func} {p q : Tmp} {ty : TypeId} (h : fn.results = #[.cell p ty, .tmp q]) (tmps : Array Value) (w : World) (g off : Nat) {t : TypeId} {cs : Array Value} {fr : Nat × Nat} (d : TypeDesc) (vs : List Value) (y : Value)
 (hp : tmps[p]? = some (.pointer (some ⟨g, off, none⟩))) (hq : tmps[q]? = some y) (hg : w.heap[g]? = some (.cells cs t fr))
 (hu : P.underlying ty = some d) (hd : (match d with | .struct _ | .array _ _ => true | _ => false) = true) (hi : (P.info? ty).map (·.size) = some vs.length) (hpt : PartAt cs off vs) :
 (results fn tmps).run P w = .ok (.tuple #[.agg vs.toArray, y]) w := by
 simp [results, h, hp, hq, asAddr, loadVar_part w g off t ty cs fr d vs hg hu hd hi hpt]
theorem results_cell_one {fn : Func} {p : Tmp} {ty : TypeId} (h : fn.results = #[.cell p ty]) (tmps : Array Value) (w : World) (g off : Nat) {t : TypeId} {cs : Array Value} {fr : Nat × Nat} (d : TypeDesc) (vs : List Value)
 (hp : tmps[p]? = some (.pointer (some ⟨g, off, none⟩))) (hg : w.heap[g]? = some (.cells cs t fr))
 (hu : P.underlying ty = some d) (hd : (match d with | .struct _ | .array _ _ => true | _ => false) = true) (hi : (P.info? ty).map (·.size) = some vs.length) (hpt : PartAt cs off vs) :
 (results fn tmps).run P w = .ok (.agg vs.toArray) w := by
 simp [results, h, hp, asAddr, loadVar_part w g off t ty cs fr d vs hg hu hd hi hpt]
end
theorem grown_block {w : World} {b : Nat} {o : Obj} (h : w.heap[b]? = some o) : ∀ w', (∃ p : Regrown, w' = grow (redrawn w p.d) p.os) -> w'.heap[b]? = some o := by
 rintro w' ⟨p, rfl⟩
 exact blk_below (below_regrown w p.d p.os) h (lt_of_block h)
theorem row_set {w : World} {g : Nat} {old : Array Value} {t : TypeId} (cs : Array Value) (h : w.heap[g]? = some (.cells old t (0, 0))) : (w.setRow g cs).heap[g]? = some (.cells cs t (0, 0)) := setRow_heap w g old cs t (0, 0) h
theorem row_else {w : World} {b : Nat} {o : Obj} (g : Nat) (cs : Array Value) (h : w.heap[b]? = some o) (hne : b ≠ g) : (w.setRow g cs).heap[b]? = some o := by rw [setRow_other w g b cs hne]; exact h
theorem below_setRow {B : Nat} {w w' : World} (h : Below B w w') {g : Nat} (cs : Array Value) (hg : B <= g) : Below B w (w'.setRow g cs) :=
 ⟨h.os, h.tape, h.output, by simpa using h.size, fun k hk => (setRow_other w' g k cs (by omega)).trans (h.block k hk)⟩
theorem set_arr (l : List Value) (k : Nat) (v : Value) : l.toArray.setIfInBounds k v = (l.set k v).toArray := by simp
def upd (f : Nat -> Int) (h : Nat) (v : Int) : Nat -> Int := fun i => if i = h then v else f i
theorem upd_at (f : Nat -> Int) (h : Nat) (v : Int) : upd f h v h = v := by unfold upd; rw [if_pos rfl]
theorem upd_ne (f : Nat -> Int) {h i : Nat} (v : Int) (hi : i ≠ h) : upd f h v i = f i := by unfold upd; rw [if_neg hi]
def il (k : IntKind) (f : Nat -> Int) (n : Nat) : List Value := (List.range n).map fun i => .int k (f i)
theorem il_len (k : IntKind) (f : Nat -> Int) (n : Nat) : (il k f n).length = n := by simp [il]
theorem il_get (k : IntKind) (f : Nat -> Int) (n i : Nat) (h : i < n) : (il k f n)[i]? = some (.int k (f i)) := by simp [il, h]
theorem il_congr (k : IntKind) (f g : Nat -> Int) (n : Nat) (h : ∀ i, i < n -> f i = g i) : il k f n = il k g n := by
 unfold il
 exact List.map_congr_left fun i hi => by rw [h i (by simpa using hi)]
theorem il_set (k : IntKind) (f : Nat -> Int) (n h : Nat) (v : Int) : (il k f n).set h (.int k v) = il k (upd f h v) n := by
 apply List.ext_getElem?
 intro i
 by_cases hi : i < n
 . rw [il_get _ _ _ _ hi, List.getElem?_set]
   by_cases e : h = i
   . subst e; simp [il_len, hi, upd_at]
   . rw [if_neg e, upd_ne _ _ (fun h => e h.symm), il_get _ _ _ _ hi]
 . rw [List.getElem?_eq_none (by simp [il_len]; omega), List.getElem?_eq_none (by simp [il_len]; omega)]
theorem app_get (xs ys : List Value) (n i : Nat) (h : xs.length = n) : (xs ++ ys)[n + i]? = ys[i]? := by
 subst h; rw [List.getElem?_append_right (by omega)]; congr 1; omega
theorem app_left (xs ys : List Value) (i : Nat) (h : i < xs.length) : (xs ++ ys)[i]? = xs[i]? := List.getElem?_append_left h
theorem app_set (xs ys : List Value) (n i : Nat) (v : Value) (h : xs.length = n) : (xs ++ ys).set (n + i) v = xs ++ ys.set i v := by
 subst h; rw [List.set_append_right _ _ (by omega)]; congr 2; omega
theorem app_set_left (xs ys : List Value) (i : Nat) (v : Value) (h : i < xs.length) : (xs ++ ys).set i v = xs.set i v ++ ys := List.set_append_left _ _ h
end Go.Proofs.YtpojmmgokgamgaaGreat.B
namespace Go.Proofs.YtpojmmgokgamgaaGreat.B
open Go.ChangeShapes Go.WideShapes Go.RowKit Go.Sort
theorem ne4 {x : Int} (h : x % 4 = 0) : (x % 4 != 0) = false := by simp [h]
def regV (k h : Int) : Value := .agg #[.int .i64 k, .int .i64 h]
def lay : Nat -> List (Int × Value)
 | 0 => [(49148, regV 4 0), (49144, regV 3 0)]
 | k + 1 => (16384 + 8 * (k : Int) + 4, regV 2 k) :: (16384 + 8 * (k : Int), regV 1 k) :: (4 * (k : Int), regV 0 k) :: lay k
theorem lay_mem (n : Nat) (p : Int × Value) : p ∈ lay n ↔ p = (49148, regV 4 0) \/ p = (49144, regV 3 0) \/ ∃ h : Nat, h < n /\ (p = (16384 + 8 * (h : Int) + 4, regV 2 h) \/ p = (16384 + 8 * (h : Int), regV 1 h) \/ p = (4 * (h : Int), regV 0 h)) := by
 induction n with
 | zero => simp [lay]
 | succ k ih =>
   simp only [lay, List.mem_cons, ih]
   constructor
   . rintro (h | h | h | h | h | ⟨j, hj, h⟩)
     . exact .inr (.inr ⟨k, by omega, .inl h⟩)
     . exact .inr (.inr ⟨k, by omega, .inr (.inl h)⟩)
     . exact .inr (.inr ⟨k, by omega, .inr (.inr h)⟩)
     . exact .inl h
     . exact .inr (.inl h)
     . exact .inr (.inr ⟨j, by omega, h⟩)
   . rintro (h | h | ⟨j, hj, h⟩)
     . exact .inr (.inr (.inr (.inl h)))
     . exact .inr (.inr (.inr (.inr (.inl h))))
     . by_cases e : j = k
       . subst e
         rcases h with h | h | h
         . exact .inl h
         . exact .inr (.inl h)
         . exact .inr (.inr (.inl h))
       . exact .inr (.inr (.inr (.inr (.inr ⟨j, by omega, h⟩))))
theorem lay_key (n : Nat) (p : Int × Value) (h : p ∈ lay n) : p.1 = 49148 \/ p.1 = 49144 \/ ∃ h : Nat, h < n /\ (p.1 = 16384 + 8 * (h : Int) + 4 \/ p.1 = 16384 + 8 * (h : Int) \/ p.1 = 4 * (h : Int)) := by
 rcases (lay_mem n p).1 h with rfl | rfl | ⟨j, hj, rfl | rfl | rfl⟩
 . exact .inl rfl
 . exact .inr (.inl rfl)
 . exact .inr (.inr ⟨j, hj, .inl rfl⟩)
 . exact .inr (.inr ⟨j, hj, .inr (.inl rfl)⟩)
 . exact .inr (.inr ⟨j, hj, .inr (.inr rfl)⟩)
inductive At (n : Nat) (o : Int) : Prop
 | odd (h : o % 4 ≠ 0)
 | lo (h : o = 49144)
 | hi (h : o = 49148)
 | soft (h : Nat) (hn : h < n) (e : o = 4 * (h : Int))
 | low (h : Nat) (hn : h < n) (e : o = 16384 + 8 * (h : Int))
 | high (h : Nat) (hn : h < n) (e : o = 16384 + 8 * (h : Int) + 4)
 | none (h4 : o % 4 = 0) (h1 : o ≠ 49144) (h2 : o ≠ 49148) (h : ∀ h : Nat, h < n -> o ≠ 4 * (h : Int) /\ o ≠ 16384 + 8 * (h : Int) /\ o ≠ 16384 + 8 * (h : Int) + 4)
theorem at_all (n : Nat) (o : Int) : At n o := by
 by_cases h4 : o % 4 = 0
 . by_cases h1 : o = 49144
   . exact .lo h1
   . by_cases h2 : o = 49148
     . exact .hi h2
     . by_cases h : ∃ h : Nat, h < n /\ (o = 4 * (h : Int) \/ o = 16384 + 8 * (h : Int) \/ o = 16384 + 8 * (h : Int) + 4)
       . obtain ⟨j, hj, h | h | h⟩ := h
         . exact .soft j hj h
         . exact .low j hj h
         . exact .high j hj h
       . refine .none h4 h1 h2 fun j hj => ⟨fun e => h ⟨j, hj, .inl e⟩, fun e => h ⟨j, hj, .inr (.inl e)⟩, fun e => h ⟨j, hj, .inr (.inr e)⟩⟩
 . exact .odd h4
theorem lay_none (n : Nat) (o : Int) (h1 : o ≠ 49144) (h2 : o ≠ 49148) (h : ∀ h : Nat, h < n -> o ≠ 4 * (h : Int) /\ o ≠ 16384 + 8 * (h : Int) /\ o ≠ 16384 + 8 * (h : Int) + 4) : ∀ p ∈ lay n, p.1 ≠ o := by
 intro p hp e
 rcases lay_key n p hp with g | g | ⟨j, hj, g | g | g⟩
 . exact h2 (by rw [<- e, g])
 . exact h1 (by rw [<- e, g])
 . exact (h j hj).2.2 (by rw [<- e, g])
 . exact (h j hj).2.1 (by rw [<- e, g])
 . exact (h j hj).1 (by rw [<- e, g])
def cHart (n : Nat) (o : Int) : Prop := (0 <= o /\ o < 4 * (n : Int)) \/ (16384 <= o /\ o < 16384 + 8 * (n : Int))
instance (n : Nat) (o : Int) : Decidable (cHart n o) := by unfold cHart; exact inferInstance
def cErr (n : Nat) (o : Int) : Int := if o % 4 ≠ 0 then 11 else if o = 49144 \/ o = 49148 \/ cHart n o then 0 else 10
def cVal (t : Int) (n : Nat) (D S : Nat -> Int) (o : Int) : Int :=
 if cErr n o ≠ 0 then 0 else if o = 49144 then lo t else if o = 49148 then hi t else if o < 16384 then S (o / 4).toNat
 else if o % 8 = 0 then lo (D ((o - 16384) / 8).toNat) else hi (D ((o - 16384) / 8).toNat)
def cErrS (n : Nat) (o : Int) : Int := if cErr n o ≠ 0 then cErr n o else if 49144 <= o then 12 else 0
def cPutS (n : Nat) (S : Nat -> Int) (o v : Int) : Nat -> Int := if cErrS n o = 0 /\ o < 16384 then upd S (o / 4).toNat (v % 2) else S
def cPutD (n : Nat) (D : Nat -> Int) (o v : Int) : Nat -> Int :=
 if cErrS n o = 0 /\ 16384 <= o then
  if o % 8 = 0 then upd D ((o - 16384) / 8).toNat (join (hi (D ((o - 16384) / 8).toNat)) v) else upd D ((o - 16384) / 8).toNat (join v (lo (D ((o - 16384) / 8).toNat)))
 else D
section
variable {t : Int} {n : Nat} {D S : Nat -> Int} {v : Int}
theorem odd_err {o : Int} (h : o % 4 ≠ 0) : cErr n o = 11 := by unfold cErr; rw [if_pos h]
theorem none_err {o : Int} (o0 : 0 <= o) (h4 : o % 4 = 0) (h1 : o ≠ 49144) (h2 : o ≠ 49148) (h : ∀ h : Nat, h < n -> o ≠ 4 * (h : Int) /\ o ≠ 16384 + 8 * (h : Int) /\ o ≠ 16384 + 8 * (h : Int) + 4) : cErr n o = 10 := by
 unfold cErr
 rw [if_neg (by omega), if_neg]
 rintro (e | e | e | e)
 . exact h1 e
 . exact h2 e
 . have := (h (o / 4).toNat (by omega)).1; omega
 . have := (h ((o - 16384) / 8).toNat (by omega)).2; omega
theorem err_val {o : Int} (h : cErr n o ≠ 0) : cVal t n D S o = 0 := by unfold cVal; rw [if_pos h]
theorem err_errS {o : Int} (h : cErr n o ≠ 0) : cErrS n o = cErr n o := by unfold cErrS; rw [if_pos h]
theorem err_putS {o : Int} (h : cErrS n o ≠ 0) : cPutS n S o v = S := by unfold cPutS; rw [if_neg (fun e => h e.1)]
theorem err_putD {o : Int} (h : cErrS n o ≠ 0) : cPutD n D o v = D := by unfold cPutD; rw [if_neg (fun e => h e.1)]
theorem lo_err : cErr n 49144 = 0 := by unfold cErr; simp
theorem hi_err : cErr n 49148 = 0 := by unfold cErr; simp
theorem lo_val : cVal t n D S 49144 = lo t := by unfold cVal; rw [if_neg (by rw [lo_err]; simp), if_pos rfl]
theorem hi_val : cVal t n D S 49148 = hi t := by unfold cVal; rw [if_neg (by rw [hi_err]; simp), if_neg (by omega), if_pos rfl]
theorem lo_errS : cErrS n 49144 = 12 := by unfold cErrS; rw [if_neg (by rw [lo_err]; simp), if_pos (by omega)]
theorem hi_errS : cErrS n 49148 = 12 := by unfold cErrS; rw [if_neg (by rw [hi_err]; simp), if_pos (by omega)]
variable {h : Nat}
theorem soft_err (hn : h < n) : cErr n (4 * (h : Int)) = 0 := by unfold cErr; rw [if_neg (by omega), if_pos (.inr (.inr (.inl (by omega))))]
theorem low_err (hn : h < n) : cErr n (16384 + 8 * (h : Int)) = 0 := by unfold cErr; rw [if_neg (by omega), if_pos (.inr (.inr (.inr (by omega))))]
theorem high_err (hn : h < n) : cErr n (16384 + 8 * (h : Int) + 4) = 0 := by unfold cErr; rw [if_neg (by omega), if_pos (.inr (.inr (.inr (by omega))))]
theorem soft_val (hn : h < n) (h8 : n <= 8) : cVal t n D S (4 * (h : Int)) = S h := by
 unfold cVal; rw [if_neg (by rw [soft_err hn]; simp), if_neg (by omega), if_neg (by omega), if_pos (by omega)]; congr 1; omega
theorem low_val (hn : h < n) (h8 : n <= 8) : cVal t n D S (16384 + 8 * (h : Int)) = lo (D h) := by
 unfold cVal; rw [if_neg (by rw [low_err hn]; simp), if_neg (by omega), if_neg (by omega), if_neg (by omega), if_pos (by omega)]; congr 2; omega
theorem high_val (hn : h < n) (h8 : n <= 8) : cVal t n D S (16384 + 8 * (h : Int) + 4) = hi (D h) := by
 unfold cVal; rw [if_neg (by rw [high_err hn]; simp), if_neg (by omega), if_neg (by omega), if_neg (by omega), if_neg (by omega)]; congr 2; omega
theorem soft_errS (hn : h < n) (h8 : n <= 8) : cErrS n (4 * (h : Int)) = 0 := by unfold cErrS; rw [if_neg (by rw [soft_err hn]; simp), if_neg (by omega)]
theorem low_errS (hn : h < n) (h8 : n <= 8) : cErrS n (16384 + 8 * (h : Int)) = 0 := by unfold cErrS; rw [if_neg (by rw [low_err hn]; simp), if_neg (by omega)]
theorem high_errS (hn : h < n) (h8 : n <= 8) : cErrS n (16384 + 8 * (h : Int) + 4) = 0 := by unfold cErrS; rw [if_neg (by rw [high_err hn]; simp), if_neg (by omega)]
theorem soft_putS (hn : h < n) (h8 : n <= 8) : cPutS n S (4 * (h : Int)) v = upd S h (v % 2) := by
 unfold cPutS; rw [if_pos ⟨soft_errS hn h8, by omega⟩]; congr 1; omega
theorem soft_putD (hn : h < n) (h8 : n <= 8) : cPutD n D (4 * (h : Int)) v = D := by unfold cPutD; rw [if_neg (by omega)]
theorem low_putS (hn : h < n) : cPutS n S (16384 + 8 * (h : Int)) v = S := by unfold cPutS; rw [if_neg (by omega)]
theorem high_putS (hn : h < n) : cPutS n S (16384 + 8 * (h : Int) + 4) v = S := by unfold cPutS; rw [if_neg (by omega)]
theorem low_putD (hn : h < n) (h8 : n <= 8) : cPutD n D (16384 + 8 * (h : Int)) v = upd D h (join (hi (D h)) v) := by
 have e : ((16384 + 8 * (h : Int) - 16384) / 8).toNat = h := by omega
 unfold cPutD; rw [if_pos ⟨low_errS hn h8, by omega⟩, if_pos (by omega), e]
theorem high_putD (hn : h < n) (h8 : n <= 8) : cPutD n D (16384 + 8 * (h : Int) + 4) v = upd D h (join v (lo (D h))) := by
 have e : ((16384 + 8 * (h : Int) + 4 - 16384) / 8).toNat = h := by omega
 unfold cPutD; rw [if_pos ⟨high_errS hn h8, by omega⟩, if_neg (by omega), e]
end
def okD (D : Nat -> Int) : Prop := ∀ i, 0 <= D i /\ D i < 18446744073709551616
def okS (S : Nat -> Int) : Prop := ∀ i, 0 <= S i /\ S i < 4294967296
theorem okD.upd {D : Nat -> Int} (h : okD D) (k : Nat) {v : Int} (v0 : 0 <= v) (v1 : v < 18446744073709551616) : okD (upd D k v) := fun i => by
 unfold B.upd; split
 . exact ⟨v0, v1⟩
 . exact h i
theorem okS.upd {S : Nat -> Int} (h : okS S) (k : Nat) {v : Int} (v0 : 0 <= v) (v1 : v < 4294967296) : okS (upd S k v) := fun i => by
 unfold B.upd; split
 . exact ⟨v0, v1⟩
 . exact h i
theorem join_bounds {h l : Int} (h0 : 0 <= h) (h1 : h < 4294967296) (l0 : 0 <= l) (l1 : l < 4294967296) : 0 <= join h l /\ join h l < 18446744073709551616 := by unfold join; omega
theorem addS_bounds {a b : Int} (a0 : 0 <= a) (a1 : a < 18446744073709551616) (b0 : 0 <= b) (b1 : b < 18446744073709551616) : 0 <= addS a b /\ addS a b < 18446744073709551616 := by unfold addS; split <;> omega
theorem putM_new {x : Int} {v : Value} {M : List (Int × Value)} (h : ∀ p ∈ M, p.1 ≠ x) : putM x v M = (x, v) :: M := by
 unfold putM
 rw [List.filter_eq_self.2 fun p hp => by simpa using h p hp]
end Go.Proofs.YtpojmmgokgamgaaGreat.B
namespace Go.Proofs.YtpojmmgokgamgaaGreat.B
open Go.ChangeShapes Go.WideShapes Go.RowKit
theorem Lo (a : Int) (w : World) (h0 : 0 <= a) (h1 : a < 18446744073709551616) :
 Calls Tryz.prog 180 #[.int .u64 a] w fun e w' => e = .returned (.int .u32 (lo a)) /\ w = w' := by
 go_enter Tryz.func180, Tryz.ntmps180
 go_wp2
 go_ret
 exact ⟨rfl, rfl⟩
theorem Mask (n : Int) (w : World) (h0 : -9223372036854775808 <= n) (h1 : n < 9223372036854775808) :
 Calls Tryz.prog 181 #[.int .i64 n] w fun e w' => e = .returned (.int .u64 (mask n)) /\ w = w' := by
 by_cases a : n < 0
 . go_enter Tryz.func181, Tryz.ntmps181
   go_wp2
   go_ret
   exact ⟨ret_int (by unfold mask; rw [if_pos a]), rfl⟩
 . by_cases b : 64 < n
   . go_enter Tryz.func181, Tryz.ntmps181
     go_wp2
     go_ret
     exact ⟨ret_int (wrap_mask_top n (by omega)), rfl⟩
   . go_enter Tryz.func181, Tryz.ntmps181
     go_wp2
     go_ret
     exact ⟨ret_int (wrap_mask n (by omega) (by omega)), rfl⟩
theorem inWord (low width : Int) (w : World) :
 Calls Tryz.prog 179 #[.int .i64 low, .int .i64 width] w fun e w' => e = .returned (.bool (inw low width)) /\ w = w' := by
 go_enter Tryz.func179, Tryz.ntmps179
 go_wp2
 all_goals (go_ret; exact ⟨ret_bool (by unfold inw; first | (simp [*]; done) | (simp; omega)), rfl⟩)
theorem Hi (a : Int) (w : World) (h0 : 0 <= a) (h1 : a < 18446744073709551616) :
 Calls Tryz.prog 219 #[.int .u64 a] w fun e w' => e = .returned (.int .u32 (hi a)) /\ w = w' := by
 go_enter Tryz.func219, Tryz.ntmps219
 go_wp2
 go_ret
 exact ⟨rfl, rfl⟩
theorem Join (h l : Int) (w : World) (h0 : 0 <= h) (h1 : h < 4294967296) (l0 : 0 <= l) (l1 : l < 4294967296) :
 Calls Tryz.prog 260 #[.int .u32 h, .int .u32 l] w fun e w' => e = .returned (.int .u64 (join h l)) /\ w = w' := by
 go_enter Tryz.func260, Tryz.ntmps260
 go_wp2
 go_ret
 exact ⟨ret_int (or_join h l h0 h1 l0 l1), rfl⟩
theorem Add (a b : Int) (w : World) (h0 : 0 <= a) (h1 : a < 18446744073709551616) (l0 : 0 <= b) (l1 : b < 18446744073709551616) :
 Calls Tryz.prog 261 #[.int .u64 a, .int .u64 b] w fun e w' => e = .returned (.int .u64 (addS a b)) /\ w = w' := by
 go_enter Tryz.func261, Tryz.ntmps261
 go_wp2
 all_goals (go_ret; exact ⟨ret_int (by unfold addS; first | rw [if_pos (by assumption)] | rw [if_neg (by omega)]), rfl⟩)
theorem Field (n low width : Int) (w : World) (h0 : 0 <= n) (h1 : n < 4294967296) (w0 : -9223372036854775808 <= width) (w1 : width < 9223372036854775808) :
 Calls Tryz.prog 238 #[.int .u32 n, .int .i64 low, .int .i64 width] w fun e w' => e = .returned (.int .u32 (field n low width)) /\ ∃ k, w' = w.drewN k := by
 have m0 := mask_nonneg width
 have m1 := mask_le width
 cases hb : inw low width
 . go_enter Tryz.func238, Tryz.ntmps238
   go_wp2_with (go_at_call 179; refine (inWord _ _ _).mono ?_; rintro e w' ⟨rfl, rfl⟩)
   go_ret
   exact ⟨ret_int (by unfold field; rw [hb]; rfl), 0, rfl⟩
 . have hl : 0 <= low /\ low < 32 := by unfold inw at hb; simp at hb; omega
   obtain ⟨l0, l1⟩ := hl
   go_enter Tryz.func238, Tryz.ntmps238
   go_wp2_with (first | (go_at_call 179; refine (inWord _ _ _).mono ?_; rintro e w' ⟨rfl, rfl⟩))
   go_quiet ((first | (go_at_call 181; exact Calls.quiet_of_same ((Mask _ _ (by omega) (by omega)).mono fun _ _ h => ⟨h.1, h.2.symm⟩)) | (go_at_call 180; exact Calls.quiet_of_same ((Lo _ _ (by omega) (by omega)).mono fun _ _ h => ⟨h.1, h.2.symm⟩))))
   go_wp2
   go_ret
   exact ⟨ret_int (field_code n low width h0 h1 hb), nq, rfl⟩
theorem Put (n low width v : Int) (w : World) (h0 : 0 <= n) (h1 : n < 4294967296) (w0 : -9223372036854775808 <= width) (w1 : width < 9223372036854775808) (v0 : 0 <= v) (v1 : v < 4294967296) :
 Calls Tryz.prog 116 #[.int .u32 n, .int .i64 low, .int .i64 width, .int .u32 v] w fun e w' => e = .returned (.int .u32 (put n low width v)) /\ w = w' := by
 have m0 := mask_nonneg width
 have m1 := mask_le width
 cases hb : inw low width
 . go_enter Tryz.func116, Tryz.ntmps116
   go_wp2_with (go_at_call 179; refine (inWord _ _ _).mono ?_; rintro e w' ⟨rfl, rfl⟩)
   go_ret
   exact ⟨ret_int (by unfold put; rw [hb]; rfl), rfl⟩
 . have hl : 0 <= low /\ low < 32 := by unfold inw at hb; simp at hb; omega
   obtain ⟨l0, l1⟩ := hl
   go_enter Tryz.func116, Tryz.ntmps116
   go_wp2_with (first | (go_at_call 179; refine (inWord _ _ _).mono ?_; rintro e w' ⟨rfl, rfl⟩) | (go_at_call 181; refine (Mask _ _ (by omega) (by omega)).mono ?_; rintro e w' ⟨rfl, rfl⟩) | (go_at_call 180; refine (Lo _ _ (by omega) (by omega)).mono ?_; rintro e w' ⟨rfl, rfl⟩))
   go_ret
   exact ⟨ret_int (put_code n low width v h0 h1 v0 hb), rfl⟩
end Go.Proofs.YtpojmmgokgamgaaGreat.B
namespace Go.Proofs.YtpojmmgokgamgaaGreat.B
open Go.RowKit Go.Sort
section
variable {P : Program} {ops : Array Oper} {md : Region.Mode} {C : World -> Prop}
def headQ (P : Program) (md : Region.Mode) (ops : Array Oper) (C : World -> Prop) (n : Nat) (L : Array Bool -> Act -> Prop) : Nat -> Array Bool -> Act -> Prop
 | 0, done, a => L done a
 | f + 1, done, a => Region.ready md ops done ≠ [] /\ ∀ i ∈ Region.ready md ops done, i < n /\ qOp P ops C i (headQ P md ops C n L f (done.setIfInBounds i true)) a
theorem headQ_sound {n g : Nat} {L : Array Bool -> Act -> Prop} {Q' : Exit -> Act -> World -> Prop} (hL : ∀ done a w, C w -> L done a -> wpAny P md ops Q' g done a w) (f : Nat) :
 ∀ (done : Array Bool) (a : Act) (w : World), C w -> headQ P md ops C n L f done a -> wpAny P md ops Q' (f + g) done a w := by
 induction f with
 | zero => intro done a w hw h; rw [Nat.zero_add]; exact hL _ _ _ hw h
 | succ f ih =>
   intro done a w hw ⟨h1, h2⟩
   rw [show f + 1 + g = (f + g) + 1 by omega]
   exact ⟨fun h0 => absurd h0 h1, fun i hi => wpOp_of_qOp hw (fun a' w' hw' h' => ih _ a' w' hw' h') (h2 i hi).2⟩
theorem headQ_first {n i : Nat} {oi : Oper} {v : Value} {L : Array Bool -> Act -> Prop} (hi : ops[i]? = some oi) (hsel : ∀ (j : Nat) (o : Oper) cs b, ops[j]? = some o -> o.op ≠ .select cs b)
 (hs : Region.sinkB md ops n = true) (hc : Region.chainB md ops n = true) (hn : n < ops.size) (hin : i < n) (hdone : ∀ done a, L done a -> ∀ j ∈ Region.ready md ops done, n <= j) (f : Nat) :
 ∀ (done : Array Bool) (a : Act), HeadInv md ops n done ->
  (∀ j oj, ops[j]? = some oj -> j ≠ i -> done.getD j true = false -> (∀ e ∈ oj.after, Region.binds md e = true -> e.on ≠ i) -> oi.apart ops oj = true) ->
  i ∈ Region.ready md ops done -> YieldsIn P ops C oi v a -> headQ P md ops C n L f (done.setIfInBounds i true) (a.put oi.dst v) -> headQ P md ops C n L (f + 1) done a := by
 have below : ∀ done : Array Bool, HeadInv md ops n done -> i ∈ Region.ready md ops done -> ∀ j ∈ Region.ready md ops done, j < n := fun done inv hr j hj => by
  rcases Nat.lt_or_ge j n with h | h
  . exact h
  . exact absurd hj (tail_waits hs hc hn inv _ i rfl hin (mem_ready.1 hr).1 j h)
 induction f with
 | zero =>
   intro done a inv _ hr hy H
   refine ⟨fun h => (by rw [h] at hr; cases hr), fun j hj => ⟨below done inv hr j hj, ?_⟩⟩
   by_cases e : j = i
   . subst e; exact hy.qOp hi H
   . have := hdone _ _ H j (ready_mono hj e)
     have := below done inv hr j hj
     omega
 | succ f ih =>
   intro done a inv hfree hr hy H
   have hun := (mem_ready.1 hr).1
   refine ⟨fun h => (by rw [h] at hr; cases hr), fun j hj => ⟨below done inv hr j hj, ?_⟩⟩
   by_cases e : j = i
   . subst e; exact hy.qOp hi H
   . obtain ⟨hjun, oj, hoj, hall⟩ := mem_ready.1 hj
     have hnot : ∀ e ∈ oj.after, Region.binds md e = true -> e.on ≠ i := fun e he hb heq => by
      have h1 := hall e he hb
      rw [heq, getD_both hun] at h1
      cases h1
     have hstep := qOp_put hoj (hfree j oj hoj e hjun hnot) (fun cs b => hsel i oi cs b hi) (fun cs b => hsel j oj cs b hoj) hy (H.2 j (ready_mono hj e)).2
     refine qOp_mono (fun a' h3 => ih (done.setIfInBounds j true) a' (inv.set hj (below done inv hr j hj)) ?_ (ready_mono hr (Ne.symm e)) h3.1 ?_) hstep
     . intro k ok hk hki hku hno
       refine hfree k ok hk hki ?_ hno
       by_cases hjk : j = k
       . subst hjk; exact hjun
       . rwa [getD_set_ne true hjk] at hku
     . rw [Array.setIfInBounds_comm _ _ e]; exact h3.2
theorem headQ_lex {n g : Nat} {T : Act -> Prop} (hsel : Region.noSelect ops = true) (hs : Region.sinkB md ops n = true) (hc : Region.chainB md ops n = true) (hn : n < ops.size) (l : List Oper) :
 ∀ (k : Nat) (done : Array Bool) (a : Act), (∀ j, j < l.length -> l[j]? = ops[k + j]?) -> k + l.length = n -> HeadInv md ops n done ->
  Region.lexHead md ops g l.length k done = true -> wpQuiet P ops C T l a -> headQ P md ops C n (fun done' a' => Region.seqB md ops g n done' = true /\ T a') l.length done a := by
 induction l with
 | nil =>
   intro k done a _ hk _ hB h
   obtain rfl : k = n := by simpa using hk
   exact ⟨by simpa [Region.lexHead] using hB, h⟩
 | cons o l ih =>
   intro k done a hl hk inv hB h
   have h0 : ops[k]? = some o := by simpa using (hl 0 (by simp)).symm
   simp only [List.length_cons, Region.lexHead, Bool.and_eq_true] at hB
   obtain ⟨⟨hr, hf⟩, hB'⟩ := hB
   have hkl : k + (l.length + 1) = n := by simpa using hk
   have hr' : k ∈ Region.ready md ops done := by simpa using hr
   have hq : qOp P ops C k (wpQuiet P ops C T l) a := by unfold qOp; simp only [h0]; exact h
   obtain ⟨v, hy, hK⟩ := yieldsIn_of_qOp h0 hq
   refine headQ_first h0 (Region.noSelect_spec hsel) hs hc hn (by omega) (fun done' a' hL => seqB_ready hL.1) l.length done a inv (Region.free_spec h0 hf) hr' hy ?_
   exact ih (k + 1) _ _ (fun j hj => by have := hl (j + 1) (by simpa using hj); simpa [Nat.add_assoc, Nat.add_comm 1 j] using this) (by omega) (inv.set hr' (by omega)) hB' hK
theorem wp_region_quiet_tail {id : Nat} {Q : Exit -> Act -> World -> Prop} {a : Act} {w : World} {l : List Oper} (n : Nat) (hm : P.follows .mixedOrders = true) (hB : Region.lexTailB .any l.toArray n = true)
 (hC : C { w with drawn := w.drawn + 1 }) (h : wpQuiet P l.toArray C (fun a' => ∀ w', C w' -> wpList P l.toArray Q (l.drop n) a' w') (l.take n) a) : (Code.region id l.toArray true).wp P Q a w := by
 simp only [Region.lexTailB, Bool.and_eq_true, decide_eq_true_eq] at hB
 obtain ⟨⟨⟨⟨hsel, hn⟩, hs⟩, hc⟩, hlex⟩ := hB
 have hn' : n < l.length := by simpa using hn
 have htl : (l.take n).length = n := by simp; omega
 have hdl : (l.drop n).length = l.toArray.size - n := by simp
 have inv0 : HeadInv .any l.toArray n (Array.replicate l.toArray.size false) :=
  ⟨by simp, fun j oj _ hl => (by rw [getD_replicate_false] at hl; cases hl), fun t _ ht => getD_in (by simpa using ht) (getD_replicate_false _ _)⟩
 have H := headQ_lex (C := C) (md := .any) (g := l.toArray.size - n) hsel hs hc hn (l.take n) 0 _ a (fun j hj => by rw [htl] at hj; simp [hj]) (by simpa using htl) inv0 (by rw [htl]; exact hlex) h
 have key := headQ_sound (Q' := Q) (g := l.toArray.size - n) (fun done a' w' hw' hL => by
  have := wpAny_of_seq (md := .any) (Q' := Q) (l.drop n) n done a' w' (fun j => by simp [List.getElem?_drop]) (by rw [hdl]; exact hL.1) (hL.2 w' hw')
  rwa [hdl] at this) _ _ _ _ hC H
 rw [htl, show n + (l.toArray.size - n) = l.toArray.size by omega] at key
 exact wp_region_any hm key
end
theorem wp_region_tail_below {P : Program} {id : Nat} {Q : Exit -> Act -> World -> Prop} {a : Act} {w : World} {l : List Oper} (n : Nat) (hm : P.follows .mixedOrders = true) (hB : Region.lexTailB .any l.toArray n = true)
 (h : wpQuiet P l.toArray (fun w' => ∃ p : Regrown, w' = grow (redrawn w p.d) p.os) (fun a' => ∀ w', (∃ p : Regrown, w' = grow (redrawn w p.d) p.os) -> wpList P l.toArray Q (l.drop n) a' w') (l.take n) a) : (Code.region id l.toArray true).wp P Q a w :=
 wp_region_quiet_tail (C := fun w' => ∃ p : Regrown, w' = grow (redrawn w p.d) p.os) n hm hB ⟨⟨w.drawn + 1, #[]⟩, by rw [grow_empty]; rfl⟩ h
end Go.Proofs.YtpojmmgokgamgaaGreat.B
