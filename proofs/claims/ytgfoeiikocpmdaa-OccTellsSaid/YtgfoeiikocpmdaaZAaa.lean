/- Several texts in one: The plain numbers of layer 1 (bits): words, halves, digits, masks, fields: no Go, no program. The plain numbers of layer 2 .. -/
import Derived.Laws.BitsAllLaws
import Derived.RowKit
import Derived.Laws.BitsLemmas
import Derived.IntWalk
import Derived.Test.YtgfoeiikocpmdaaRows
import Derived.WalkKit
import Derived.WalkLawsBesides
import Derived.Lib.Hide
import Derived.Lib.QuietBelow
import Derived.Laws.ResultCell
import Derived.Deep.QuietTactic
import Derived.BigQuiet
import Derived.Laws.Rows
import Derived.Laws.CopyRow
import Derived.Deep.Quiet
namespace Go.Proofs.Ytgfoeiikocpmdaa.B
set_option linter.unusedVariables false
set_option linter.unusedSimpArgs false
def lo (a : Int) : Int := a % 4294967296
def hi (a : Int) : Int := a / 4294967296
def bit (n : Int) (i : Nat) : Bool := decide (n / 2 ^ i % 2 = 1)
def firstB (n f : Int) : Nat → Nat → Int
 | 0, _ => -1
 | k + 1, i => if f ≤ (i : Int) ∧ bit n i = true then i else firstB n f k (i + 1)
def first (n f : Int) : Int := firstB n f 64 0
def ofBits (f : Nat → Bool) : Nat → Nat
 | 0 => 0
 | k + 1 => ofBits f k + if f k = true then 2 ^ k else 0
theorem two_pow_le {i j : Nat} (h : i ≤ j) : (2 : Int) ^ i ≤ 2 ^ j := by
 have := Nat.pow_le_pow_right (n := 2) (by decide) h
 exact_mod_cast this
theorem and1 (x : Int) (h0 : 0 ≤ x) (h1 : x < 18446744073709551616) : bits BinOp.and IntKind.u64 x 1 = x % 2 := by
 rw [u64_and _ _ h0 h1 (by omega) (by omega)]; show ((x.toNat &&& 1 : Nat) : Int) = _; rw [nat_mask1]; omega
theorem div_pow_nonneg (n : Int) (i : Nat) (h0 : 0 ≤ n) : 0 ≤ n / 2 ^ i := Int.ediv_nonneg h0 (Int.le_of_lt (Int.pow_pos (by decide)))
theorem div_pow_lt (n : Int) (i : Nat) (h0 : 0 ≤ n) (h1 : n < 18446744073709551616) : n / 2 ^ i < 18446744073709551616 :=
 Int.lt_of_le_of_lt (Int.ediv_le_self _ h0) h1
theorem set_bit (n p : Int) (h0 : 0 ≤ n) (h1 : n < 18446744073709551616) : (bits BinOp.and IntKind.u64 (n / 2 ^ p.toNat) 1 == 1) = bit n p.toNat := by
 rw [and1 _ (div_pow_nonneg _ _ h0) (div_pow_lt _ _ h0 h1)]; rfl
theorem cast_two_pow (k : Nat) : ((2 ^ k : Nat) : Int) = 2 ^ k := by push_cast; rfl
theorem firstB_step (n f : Int) (k i : Nat) (h : ¬ (f ≤ (i : Int) ∧ bit n i = true)) : firstB n f (k + 1) i = firstB n f k (i + 1) := by
 rw [firstB, if_neg h]
theorem firstB_some (n f : Int) (p : Nat) (hf : f ≤ (p : Int)) (hb : bit n p = true) : ∀ (d i k : Nat), i + d = p → d < k →
 (∀ q : Nat, i ≤ q → f ≤ (q : Int) → q < p → bit n q = false) → firstB n f k i = p := by
 intro d
 induction d with
 | zero =>
   intro i k hi hk _
   obtain rfl : i = p := by omega
   obtain ⟨k', rfl⟩ : ∃ k', k = k' + 1 := ⟨k - 1, by omega⟩
   rw [firstB, if_pos ⟨hf, hb⟩]
 | succ d ih =>
   intro i k hi hk hq
   obtain ⟨k', rfl⟩ : ∃ k', k = k' + 1 := ⟨k - 1, by omega⟩
   rw [firstB_step n f k' i (fun ⟨a, b⟩ => by rw [hq i (Nat.le_refl _) a (by omega)] at b; cases b)]
   exact ih (i + 1) k' (by omega) (by omega) (fun q h1 h2 h3 => hq q (by omega) h2 h3)
theorem firstB_none (n f : Int) : ∀ (k i : Nat), (∀ q : Nat, i ≤ q → f ≤ (q : Int) → q < i + k → bit n q = false) → firstB n f k i = -1 := by
 intro k
 induction k with
 | zero => intro i _; rfl
 | succ k ih =>
   intro i hq
   rw [firstB_step n f k i (fun ⟨a, b⟩ => by rw [hq i (Nat.le_refl _) a (by omega)] at b; cases b)]
   exact ih (i + 1) (fun q h1 h2 h3 => hq q (by omega) h2 (by omega))
def noneTo (n f : Int) (k : Nat) : Prop := ∀ q : Nat, f ≤ (q : Int) → q < k → bit n q = false
theorem noneTo_start (n f : Int) (k : Nat) (h : (k : Int) ≤ f ∨ k = 0) : noneTo n f k := fun q h1 h2 => by omega
theorem noneTo_next (n f : Int) (k : Nat) (h : noneTo n f k) (hb : bit n k = false) : noneTo n f (k + 1) := fun q h1 h2 => by
 by_cases e : q = k
 · subst e; exact hb
 · exact h q h1 (by omega)
theorem first_some (n f : Int) (k : Nat) (h : noneTo n f k) (hf : f ≤ (k : Int)) (hk : k < 64) (hb : bit n k = true) : first n f = k :=
 firstB_some n f k hf hb k 0 64 (by omega) hk (fun q _ h2 h3 => h q h2 h3)
theorem first_none (n f : Int) (k : Nat) (h : noneTo n f k) (hk : 64 ≤ k) : first n f = -1 :=
 firstB_none n f 64 0 (fun q _ h2 h3 => h q h2 (by omega))
theorem ofBits_lt (f : Nat → Bool) (n : Nat) : ofBits f n < 2 ^ n := by
 induction n with
 | zero => simp [ofBits]
 | succ n ih => rw [ofBits, Nat.pow_succ]; split <;> omega
theorem ofBits_testBit (f : Nat → Bool) (n i : Nat) : (ofBits f n).testBit i = (decide (i < n) && f i) := by
 induction n with
 | zero => simp [ofBits]
 | succ n ih =>
   rw [ofBits]
   by_cases hf : f n = true
   · rw [if_pos hf, Nat.add_comm]
     by_cases e : i = n
     · subst e
       rw [Nat.testBit_two_pow_add_eq, ih]; simp [hf]
     · by_cases hlt : i < n
       · rw [Nat.testBit_two_pow_add_gt hlt, ih]; simp [hlt, Nat.lt_succ_of_lt hlt]
       · have : (2 ^ n + ofBits f n).testBit i = false := by
          apply Nat.testBit_lt_two_pow
          have a := ofBits_lt f n
          have b : 2 ^ (n + 1) ≤ 2 ^ i := Nat.pow_le_pow_right (by decide) (by omega)
          rw [Nat.pow_succ] at b; omega
         rw [this]; simp; omega
   · rw [if_neg hf, Nat.add_zero, ih]
     by_cases e : i = n
     · subst e; simp [hf]
     · by_cases hlt : i < n
       · simp [hlt, Nat.lt_succ_of_lt hlt]
       · have : ¬ i < n + 1 := by omega
         simp [hlt, this]
def ob (f : Nat → Bool) (k : Nat) : Int := ((ofBits f k : Nat) : Int)
theorem bit_testBit (n : Int) (i : Nat) (h : 0 ≤ n) : bit n i = n.toNat.testBit i := by
 obtain ⟨m, rfl⟩ := Int.eq_ofNat_of_zero_le h
 rw [Int.toNat_natCast, Nat.testBit_eq_decide_div_mod_eq]
 unfold bit
 have : ((m : Int) / 2 ^ i % 2) = ((m / 2 ^ i % 2 : Nat) : Int) := by push_cast; rfl
 rw [this]
 exact decide_eq_decide.2 (by omega)
theorem bit_zero (i : Nat) : bit 0 i = false := by unfold bit; simp
end Go.Proofs.Ytgfoeiikocpmdaa.B
namespace Go.Proofs.Ytgfoeiikocpmdaa.B
set_option linter.unusedVariables false
set_option linter.unusedSimpArgs false
open Go.ChangeShapes Go.WideShapes Go.RowKit Go.Sort
theorem Hd {p : Prop} (h : p) : Go.RowKit.Hid p := h
abbrev RetB (P : Program) (f : FuncId) (args : Array Value) (w : World) (v : Value) : Prop := Calls P f args w fun e w' => e = .returned v ∧ Below w.heap.size w w'
theorem ret_int {k : IntKind} {a b : Int} (h : a = b) : Ending.returned (.int k a) = .returned (.int k b) := by rw [h]
theorem ret_bool {a b : Bool} (h : a = b) : Ending.returned (.bool a) = .returned (.bool b) := by rw [h]
theorem tr {a b c : World} (h : Below a.heap.size a b) (k : Below b.heap.size b c) : Below a.heap.size a c := h.trans (k.mono h.size)
theorem trA {a b : World} (h : Below a.heap.size a b) (o : Obj) : Below a.heap.size a (b.alloc o) := h.alloc h.size o
theorem trN {a b : World} (h : Below a.heap.size a b) (n : Nat) : Below a.heap.size a (b.drewN n) := h.trans ⟨rfl, rfl, rfl, Nat.le_refl _, fun _ _ => rfl⟩
theorem trD {a b : World} (h : Below a.heap.size a b) : Below a.heap.size a b.drew := h.drew
theorem tr0 (a : World) : Below a.heap.size a a := Below.refl _ _
theorem bcell {W w1 : World} (hb : Below W.heap.size W w1) : (∀ b o, b < W.heap.size → w1.cell? ⟨b, o, none⟩ = W.cell? ⟨b, o, none⟩) ∧ (∀ b o, b < W.heap.size → w1.frozen? ⟨b, o, none⟩ = W.frozen? ⟨b, o, none⟩) :=
 ⟨fun b o h => hb.cell (p := ⟨b, o, none⟩) h, fun b o h => hb.frozen (p := ⟨b, o, none⟩) h⟩
theorem gcell (W : World) (d : Nat) (os : Array Obj) (b o : Nat) (h : b < W.heap.size) : (grow (redrawn W d) os).cell? ⟨b, o, none⟩ = W.cell? ⟨b, o, none⟩ := (bcell (below_regrown W d os)).1 b o h
theorem blk_cell {w : World} {b : Nat} {cs : Array Value} {t : TypeId} (h : w.heap[b]? = some (.cells cs t (0, 0))) (j : Nat) : w.cell? ⟨b, j, none⟩ = cs[j]? := by simp [World.cell?, h]
theorem blk_free {w : World} {b : Nat} {cs : Array Value} {t : TypeId} (h : w.heap[b]? = some (.cells cs t (0, 0))) (j : Nat) : w.frozen? ⟨b, j, none⟩ = false := by simp [World.frozen?, h]
theorem blk_set {w : World} {b : Nat} {cs : Array Value} {t : TypeId} (h : w.heap[b]? = some (.cells cs t (0, 0))) (j : Nat) (v : Value) : (w.setCell ⟨b, j, none⟩ v).heap[b]? = some (.cells (cs.setIfInBounds j v) t (0, 0)) :=
 heap_setCell_same w b j cs t v h
theorem blk_below {B : Nat} {w w' : World} (hb : Below B w w') {b : Nat} {o : Obj} (h : w.heap[b]? = some o) (hl : b < B) : w'.heap[b]? = some o := by rw [hb.block b hl]; exact h
theorem blk_new (w : World) (o : Obj) : (w.alloc o).heap[w.heap.size]? = some o := by show (w.heap.push o)[w.heap.size]? = _; simp
theorem blk_old (w : World) (o : Obj) {b : Nat} (h : b < w.heap.size) : (w.alloc o).heap[b]? = w.heap[b]? := by show (w.heap.push o)[b]? = _; rw [Array.getElem?_push, if_neg (by omega)]
theorem b2_0 (w : World) (a b : Obj) : ((w.alloc a).alloc b).heap[w.heap.size]? = some a := (blk_old _ _ (by simp)).trans (blk_new w _)
theorem b2_1 (w : World) (a b : Obj) : ((w.alloc a).alloc b).heap[w.heap.size + 1]? = some b := by simpa using blk_new (w.alloc a) b
theorem b3_0 (w : World) (a b c : Obj) : (((w.alloc a).alloc b).alloc c).heap[w.heap.size]? = some a := (blk_old _ _ (by simp; omega)).trans (b2_0 w a b)
theorem b3_1 (w : World) (a b c : Obj) : (((w.alloc a).alloc b).alloc c).heap[w.heap.size + 1]? = some b := (blk_old _ _ (by simp)).trans (b2_1 w a b)
theorem b3_2 (w : World) (a b c : Obj) : (((w.alloc a).alloc b).alloc c).heap[w.heap.size + 2]? = some c := by simpa using blk_new ((w.alloc a).alloc b) c
theorem blk_else {w : World} {b : Nat} {o : Obj} (h : w.heap[b]? = some o) (k j : Nat) (v : Value) (hne : b ≠ k) : (w.setCell ⟨k, j, none⟩ v).heap[b]? = some o := by
 rw [Below.heap_setCell w ⟨k, j, none⟩ v b hne]; exact h
end Go.Proofs.Ytgfoeiikocpmdaa.B
namespace Go.Proofs.Ytgfoeiikocpmdaa.B
set_option linter.unusedVariables false
set_option linter.unusedSimpArgs false
open Go.RowKit Go.Sort
section
variable {P : Program}
def PartAt (cs : Array Value) (o : Nat) (vs : List Value) : Prop := ∀ j v, vs[j]? = some v → cs[o + j]? = some v
theorem part_all (vs : List Value) : PartAt vs.toArray 0 vs := fun j v h => by simpa using h
theorem loadVar_part (w : World) (g o : Nat) (t ty : TypeId) (cs : Array Value) (fr : Nat × Nat) (d : TypeDesc) (vs : List Value) (hg : w.heap[g]? = some (.cells cs t fr))
 (hu : P.underlying ty = some d) (hd : (match d with | .struct _ | .array _ _ => true | _ => false) = true) (hi : (P.info? ty).map (·.size) = some vs.length) (hp : PartAt cs o vs) :
 (loadVar ty ⟨g, o, none⟩).run P w = .ok (.agg vs.toArray) w := by
 have hl : (loadCells ⟨g, o, none⟩ vs.length).run P w = .ok vs.toArray w :=
  run_loadCells_list (P := P) w ⟨g, o, none⟩ vs (fun j v hv => by
   have hadd : (⟨g, o, none⟩ : Addr).add j = ⟨g, o + j, none⟩ := by unfold Addr.add; split <;> simp_all
   rw [hadd, cell_of_row w g (o + j) cs t fr hg]
   exact hp j v hv)
 cases hq : P.info? ty with
 | none => simp [hq] at hi
 | some i =>
   have hs : i.size = vs.length := by simpa [hq] using hi
   have hagg : (isAgg ty).run P w = .ok true w := by
    unfold isAgg
    rw [Sem.run_bind, run_underlying hu w]
    cases d <;> simp_all
   simp [loadVar, Sem.run_bind, hagg, sizeOf, typeInfo, hq, hs, hl]
def spliced (cs : Array Value) (o : Nat) (vs : List Value) : Array Value := (cs.toList.take o ++ vs ++ cs.toList.drop (o + vs.length)).toArray
theorem spliced_all (cs : Array Value) (vs : List Value) (h : cs.size = vs.length) : spliced cs 0 vs = vs.toArray := by
 unfold spliced
 rw [List.drop_of_length_le (by simp; omega)]
 simp
theorem storeVar_part (w : World) (g o : Nat) (t ty : TypeId) (cs : Array Value) (vs : List Value) (hg : w.heap[g]? = some (.cells cs t (0, 0))) (hi : (P.info? ty).map (·.size) = some vs.length)
 (hl : o + vs.length ≤ cs.size) (h1 : ∀ v ∈ vs, v.oneCell' = true) :
 (storeVar ty ⟨g, o, none⟩ (.agg vs.toArray)).run P w = .ok () (w.setRow g (spliced cs o vs)) := by
 have := run_storeCells_at (P := P) g o t vs 0 cs w hg (by simpa using hl) h1
 cases hq : P.info? ty with
 | none => simp [hq] at hi
 | some i =>
   have hs : vs.length = i.size := by simp [hq] at hi; omega
   simp only [Nat.add_zero] at this
   simp [storeVar, sizeOf, typeInfo, hq, Value.cells, hs, this, spliced]
theorem wp_load_part {o : Oper} {a : Act} {w : World} {K : Act → World → Prop} {Q : Exit → Act → World → Prop} (ty : TypeId) (x : Operand) (ho : o.op = .load ty x)
 (g off : Nat) (hx : a.eval x = .pointer (some ⟨g, off, none⟩)) {t : TypeId} {cs : Array Value} {fr : Nat × Nat} (d : TypeDesc) (vs : List Value) (hg : w.heap[g]? = some (.cells cs t fr))
 (hu : P.underlying ty = some d) (hd : (match d with | .struct _ | .array _ _ => true | _ => false) = true) (hi : (P.info? ty).map (·.size) = some vs.length) (hp : PartAt cs off vs)
 (h : K (a.put o.dst (.agg vs.toArray)) w) : o.wp P a w K Q := by
 unfold Oper.wp execOp
 simp only [ho, hx, Instr.loadAt, Instr.sureAddr, Sem.run_bind, Sem.run_pure, Result.andThen_ok, loadVar_part w g off t ty cs fr d vs hg hu hd hi hp]
 exact h
theorem wpList_load_part {ops : Array Oper} {rest : List Oper} {o : Oper} {a : Act} {w : World} {Q : Exit → Act → World → Prop} (hgd : o.guard = none) (ty : TypeId) (x : Operand) (ho : o.op = .load ty x)
 (g off : Nat) (hx : a.eval x = .pointer (some ⟨g, off, none⟩)) {t : TypeId} {cs : Array Value} {fr : Nat × Nat} (d : TypeDesc) (vs : List Value) (hg : w.heap[g]? = some (.cells cs t fr))
 (hu : P.underlying ty = some d) (hd : (match d with | .struct _ | .array _ _ => true | _ => false) = true) (hi : (P.info? ty).map (·.size) = some vs.length) (hp : PartAt cs off vs)
 (h : wpList P ops Q rest (a.put o.dst (.agg vs.toArray)) w) : wpList P ops Q (o :: rest) a w :=
 wpList_plain hgd fun _ hK => wp_load_part ty x ho g off hx d vs hg hu hd hi hp (hK _ _ h)
theorem wpList_load_part_g {ops : Array Oper} {rest : List Oper} {o : Oper} {a : Act} {w : World} {Q : Exit → Act → World → Prop} (ty : TypeId) (x : Operand) (ho : o.op = .load ty x) (hw : Region.wanted o (yielded ops a.tmps) = true)
 (g off : Nat) (hx : a.eval x = .pointer (some ⟨g, off, none⟩)) {t : TypeId} {cs : Array Value} {fr : Nat × Nat} (d : TypeDesc) (vs : List Value) (hg : w.heap[g]? = some (.cells cs t fr))
 (hu : P.underlying ty = some d) (hd : (match d with | .struct _ | .array _ _ => true | _ => false) = true) (hi : (P.info? ty).map (·.size) = some vs.length) (hp : PartAt cs off vs)
 (h : wpList P ops Q rest (a.put o.dst (.agg vs.toArray)) w) : wpList P ops Q (o :: rest) a w :=
 wpList_step fun _ hK => by rw [if_pos hw]; exact wp_load_part ty x ho g off hx d vs hg hu hd hi hp (hK _ _ h)
theorem wpList_store_part {ops : Array Oper} {rest : List Oper} {o : Oper} {a : Act} {w : World} {Q : Exit → Act → World → Prop} (hgd : o.guard = none) (ty : TypeId) (x y : Operand) (ho : o.op = .store ty x y)
 (g off : Nat) (hx : a.eval x = .pointer (some ⟨g, off, none⟩)) (vs : List Value) (hy : a.eval y = .agg vs.toArray) {t : TypeId} {cs : Array Value} (hg : w.heap[g]? = some (.cells cs t (0, 0)))
 (hi : (P.info? ty).map (·.size) = some vs.length) (hl : off + vs.length ≤ cs.size) (h1 : ∀ v ∈ vs, v.oneCell' = true)
 (h : wpList P ops Q rest (a.put o.dst undef) (w.setRow g (spliced cs off vs))) : wpList P ops Q (o :: rest) a w :=
 wpList_plain hgd fun _ hK => by
  unfold Oper.wp execOp
  simp only [ho, hx, hy, Instr.storeAt, Instr.sureAddr, Sem.run_bind, Sem.run_pure, Result.andThen_ok, storeVar_part w g off t ty cs vs hg hi hl h1]
  exact hK _ _ h
theorem quiet_load_part {C : World → Prop} {o : Oper} {a : Act} {K : Act → Prop} (ty : TypeId) (x : Operand) (ho : o.op = .load ty x)
 (g off : Nat) (hx : a.eval x = .pointer (some ⟨g, off, none⟩)) {t : TypeId} {cs : Array Value} {fr : Nat × Nat} (d : TypeDesc) (vs : List Value) (hg : ∀ w, C w → w.heap[g]? = some (.cells cs t fr))
 (hu : P.underlying ty = some d) (hd : (match d with | .struct _ | .array _ _ => true | _ => false) = true) (hi : (P.info? ty).map (·.size) = some vs.length) (hp : PartAt cs off vs)
 (h : K (a.put o.dst (.agg vs.toArray))) : o.quiet P a C K :=
 ⟨_, fun w hw => by
  unfold Oper.quietAt execOp
  simp only [ho, hx, Instr.loadAt, Instr.sureAddr, Sem.run_bind, Sem.run_pure, Result.andThen_ok, loadVar_part w g off t ty cs fr d vs (hg w hw) hu hd hi hp]
  exact ⟨rfl, rfl⟩, h⟩
theorem results_cell_one {fn : Func} {p : Tmp} {ty : TypeId} (h : fn.results = #[.cell p ty]) (tmps : Array Value) (w : World) (g off : Nat) {t : TypeId} {cs : Array Value} {fr : Nat × Nat} (d : TypeDesc) (vs : List Value)
 (hp : tmps[p]? = some (.pointer (some ⟨g, off, none⟩))) (hg : w.heap[g]? = some (.cells cs t fr))
 (hu : P.underlying ty = some d) (hd : (match d with | .struct _ | .array _ _ => true | _ => false) = true) (hi : (P.info? ty).map (·.size) = some vs.length) (hpt : PartAt cs off vs) :
 (results fn tmps).run P w = .ok (.agg vs.toArray) w := by
 simp [results, h, hp, asAddr, loadVar_part w g off t ty cs fr d vs hg hu hd hi hpt]
end
theorem grown_block {w : World} {b : Nat} {o : Obj} (h : w.heap[b]? = some o) : ∀ w', (∃ p : Regrown, w' = grow (redrawn w p.d) p.os) → w'.heap[b]? = some o := by
 rintro w' ⟨p, rfl⟩
 exact blk_below (below_regrown w p.d p.os) h (lt_of_block h)
theorem row_set {w : World} {g : Nat} {old : Array Value} {t : TypeId} (cs : Array Value) (h : w.heap[g]? = some (.cells old t (0, 0))) : (w.setRow g cs).heap[g]? = some (.cells cs t (0, 0)) := setRow_heap w g old cs t (0, 0) h
theorem set_arr (l : List Value) (k : Nat) (v : Value) : l.toArray.setIfInBounds k v = (l.set k v).toArray := by simp
def bl (f : Nat → Bool) (n : Nat) : List Value := (List.range n).map fun i => .bool (f i)
theorem bl_len (f : Nat → Bool) (n : Nat) : (bl f n).length = n := by simp [bl]
theorem bl_one (f : Nat → Bool) (n : Nat) : ∀ v ∈ bl f n, v.oneCell' = true := by
 intro v h
 obtain ⟨i, _, rfl⟩ := List.mem_map.1 h
 rfl
theorem bl_get (f : Nat → Bool) (n i : Nat) (h : i < n) : (bl f n)[i]? = some (.bool (f i)) := by simp [bl, h]
theorem bl_congr (f g : Nat → Bool) (n : Nat) (h : ∀ i, i < n → f i = g i) : bl f n = bl g n := by
 unfold bl
 exact List.map_congr_left fun i hi => by rw [h i (by simpa using hi)]
theorem bl_set (f : Nat → Bool) (n k : Nat) (b : Bool) : (bl f n).set k (.bool b) = bl (fun i => if i = k then b else f i) n := by
 apply List.ext_getElem?
 intro i
 by_cases hi : i < n
 · rw [bl_get _ _ _ hi, List.getElem?_set]
   by_cases e : k = i
   · subst e; simp [bl_len, hi]
   · rw [if_neg e, if_neg (fun h => e h.symm), bl_get _ _ _ hi]
 · rw [List.getElem?_eq_none (by simp [bl_len]; omega), List.getElem?_eq_none (by simp [bl_len]; omega)]
def upd (f : Nat → Int) (h : Nat) (v : Int) : Nat → Int := fun i => if i = h then v else f i
theorem upd_at (f : Nat → Int) (h : Nat) (v : Int) : upd f h v h = v := by unfold upd; rw [if_pos rfl]
theorem upd_ne (f : Nat → Int) {h i : Nat} (v : Int) (hi : i ≠ h) : upd f h v i = f i := by unfold upd; rw [if_neg hi]
def il (k : IntKind) (f : Nat → Int) (n : Nat) : List Value := (List.range n).map fun i => .int k (f i)
theorem il_len (k : IntKind) (f : Nat → Int) (n : Nat) : (il k f n).length = n := by simp [il]
theorem il_one (k : IntKind) (f : Nat → Int) (n : Nat) : ∀ v ∈ il k f n, v.oneCell' = true := by
 intro v h
 obtain ⟨i, _, rfl⟩ := List.mem_map.1 h
 rfl
theorem il_get (k : IntKind) (f : Nat → Int) (n i : Nat) (h : i < n) : (il k f n)[i]? = some (.int k (f i)) := by simp [il, h]
theorem il_congr (k : IntKind) (f g : Nat → Int) (n : Nat) (h : ∀ i, i < n → f i = g i) : il k f n = il k g n := by
 unfold il
 exact List.map_congr_left fun i hi => by rw [h i (by simpa using hi)]
theorem il_set (k : IntKind) (f : Nat → Int) (n h : Nat) (v : Int) : (il k f n).set h (.int k v) = il k (upd f h v) n := by
 apply List.ext_getElem?
 intro i
 by_cases hi : i < n
 · rw [il_get _ _ _ _ hi, List.getElem?_set]
   by_cases e : h = i
   · subst e; simp [il_len, hi, upd_at]
   · rw [if_neg e, upd_ne _ _ (fun h => e h.symm), il_get _ _ _ _ hi]
 · rw [List.getElem?_eq_none (by simp [il_len]; omega), List.getElem?_eq_none (by simp [il_len]; omega)]
end Go.Proofs.Ytgfoeiikocpmdaa.B
namespace Go.Proofs.Ytgfoeiikocpmdaa.B
set_option linter.unusedVariables false
set_option linter.unusedSimpArgs false
def ofw (f : Nat → Bool) : Int := ((ofBits f 64 : Nat) : Int)
theorem ofw_bounds (f : Nat → Bool) : 0 ≤ ofw f ∧ ofw f < 18446744073709551616 := by
 have := ofBits_lt f 64
 unfold ofw
 omega
theorem bit_ofw (f : Nat → Bool) (i : Nat) : bit (ofw f) i = (decide (i < 64) && f i) := by
 unfold ofw
 rw [bit_testBit _ _ (by omega), Int.toNat_natCast, ofBits_testBit]
theorem bit_high64 {n : Int} {i : Nat} (h0 : 0 ≤ n) (h1 : n < 18446744073709551616) (hi : 64 ≤ i) : bit n i = false := by
 rw [bit_testBit n i h0]
 apply Nat.testBit_lt_two_pow
 have : 2 ^ 64 ≤ 2 ^ i := Nat.pow_le_pow_right (by decide) hi
 omega
theorem same_bits64 {a b : Int} (a0 : 0 ≤ a) (a1 : a < 18446744073709551616) (b0 : 0 ≤ b) (b1 : b < 18446744073709551616) (h : ∀ i, i < 64 → bit a i = bit b i) : a = b := by
 have : a.toNat = b.toNat := by
  apply Nat.eq_of_testBit_eq
  intro i
  rw [← bit_testBit a i a0, ← bit_testBit b i b0]
  by_cases hi : i < 64
  · exact h i hi
  · rw [bit_high64 a0 a1 (by omega), bit_high64 b0 b1 (by omega)]
 omega
def wput (n : Int) (s : Nat) (b : Bool) : Int := ofw fun i => if i = s then b else bit n i
theorem wput_bounds (n : Int) (s : Nat) (b : Bool) : 0 ≤ wput n s b ∧ wput n s b < 18446744073709551616 := ofw_bounds _
theorem bit_wput (n : Int) (s : Nat) (b : Bool) (i : Nat) (hi : i < 64) : bit (wput n s b) i = if i = s then b else bit n i := by
 unfold wput
 rw [bit_ofw, decide_eq_true hi, Bool.true_and]
def okM (m : Nat → Int) : Prop := ∀ i, 0 ≤ m i ∧ m i < 18446744073709551616
theorem okM.upd {m : Nat → Int} (h : okM m) (k : Nat) {v : Int} (hv : 0 ≤ v ∧ v < 18446744073709551616) : okM (upd m k v) := fun i => by
 unfold B.upd
 split
 · exact hv
 · exact h i
def tb (m : Nat → Int) (i : Nat) : Bool := bit (m (i / 64)) (i % 64)
theorem tb_at (m : Nat → Int) (l s : Nat) (hs : s < 64) : tb m (l * 64 + s) = bit (m l) s := by
 unfold tb
 rw [show (l * 64 + s) / 64 = l by omega, show (l * 64 + s) % 64 = s by omega]
theorem tb_upd (m : Nat → Int) (l s : Nat) (b : Bool) (hs : s < 64) (i : Nat) : tb (upd m l (wput (m l) s b)) i = if i = l * 64 + s then b else tb m i := by
 unfold tb
 by_cases hl : i / 64 = l
 · rw [hl, upd_at, bit_wput _ _ _ _ (by omega)]
   by_cases h : i % 64 = s
   · rw [if_pos h, if_pos (by omega)]
   · rw [if_neg h, if_neg (by omega)]
 · rw [upd_ne _ _ hl, if_neg (by omega)]
def inS (l s : Int) : Bool := decide (0 ≤ l ∧ l < 8 ∧ 0 ≤ s ∧ s < 64)
theorem inS_true {l s : Int} (h : inS l s = true) : 0 ≤ l ∧ l < 8 ∧ 0 ≤ s ∧ s < 64 := by unfold inS at h; simpa using h
theorem inS_false {l s : Int} (h : inS l s = false) : ¬ (0 ≤ l ∧ l < 8 ∧ 0 ≤ s ∧ s < 64) := by unfold inS at h; simpa using h
def mput (m : Nat → Int) (l s : Int) (b : Bool) : Nat → Int := if inS l s = true then upd m l.toNat (wput (m l.toNat) s.toNat b) else m
theorem mput_ok {m : Nat → Int} (h : okM m) (l s : Int) (b : Bool) : okM (mput m l s b) := by
 unfold mput
 split
 · exact h.upd _ (wput_bounds _ _ _)
 · exact h
def mhas (m : Nat → Int) (l s : Int) : Bool := inS l s && bit (m l.toNat) s.toNat
def mnext (m : Nat → Int) (l f : Int) : Int := if 0 ≤ l ∧ l < 8 then first (m l.toNat) f else -1
theorem half_bit (n : Int) (s : Nat) : (n / 2 ^ s % 2 == 1) = bit n s := by unfold bit; rw [Bool.eq_iff_iff]; simp
theorem half_next (n : Int) (s : Nat) : n / 2 ^ s / 2 = n / 2 ^ (s + 1) := by rw [Int.pow_succ, Int.ediv_ediv_of_nonneg (Int.le_of_lt (Int.pow_pos (by decide)))]
theorem half_up (n : Int) (s : Nat) : n / 2 ^ s = 2 * (n / 2 ^ (s + 1)) + (if bit n s = true then 1 else 0) := by
 have h := half_next n s
 unfold bit
 split
 · rename_i hb
   have hb : n / 2 ^ s % 2 = 1 := by simpa using hb
   omega
 · rename_i hb
   have hb : ¬ n / 2 ^ s % 2 = 1 := by simpa using hb
   omega
theorem half_top {n : Int} (h0 : 0 ≤ n) (h1 : n < 18446744073709551616) : n / 2 ^ 64 = 0 := by
 have e : (2 : Int) ^ 64 = 18446744073709551616 := by decide
 rw [e]
 exact Int.ediv_eq_zero_of_lt h0 h1
def takenB (m : Nat → Int) (k : Nat) : List Nat := (List.range k).filter (tb m)
theorem takenB_succ (m : Nat → Int) (k : Nat) : takenB m (k + 1) = takenB m k ++ (if tb m k = true then [k] else []) := by
 unfold takenB
 rw [List.range_succ, List.filter_append]
 congr 1
 cases h : tb m k <;> simp [h]
def taken (m : Nat → Int) : List Nat := takenB m 512
theorem takenB_len (m : Nat → Int) (k : Nat) : (takenB m k).length ≤ k := by
 have := List.length_filter_le (tb m) (List.range k)
 rw [List.length_range] at this
 exact this
end Go.Proofs.Ytgfoeiikocpmdaa.B
