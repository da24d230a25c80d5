/- Several texts in one: Rows and parts of rows, by value: a whole array (or struct) read out of a block that is known whole, and stored into a part .. -/
import Derived.Test.YtopkmjiilnoeeaaZAaa
import Derived.Laws.Rows
import Derived.Laws.CopyRow
import Derived.Deep.Quiet
import Derived.Lib.QuietBelow
import Derived.Laws.StructEq
import Derived.ChangeKeysEq
import Derived.Deep.RegionLaw
import Derived.Maps.AppendAt
import Derived.Laws.AppendOwn
import Derived.Laws.OwnMore
import Derived.OwnWalk
import Derived.Great.BuildSlice
namespace Go.Proofs.Ytopkmjiilnoeeaa.B
set_option linter.unusedVariables false
set_option linter.unusedSimpArgs false
open Go.RowKit Go.Sort
section
variable {P : Program}
def PartAt (cs : Array Value) (o : Nat) (vs : List Value) : Prop := ∀ j v, vs[j]? = some v → cs[o + j]? = some v
theorem part_all (vs : List Value) : PartAt vs.toArray 0 vs := fun j v h => by simpa using h
theorem loadVar_part (w : World) (g o : Nat) (t ty : TypeId) (cs : Array Value) (fr : Nat × Nat) (d : TypeDesc) (vs : List Value) (hg : w.heap[g]? = some (.cells cs t fr))
 (hu : P.underlying ty = some d) (hd : (match d with | .struct _ | .array _ _ => true | _ => false) = true) (hi : (P.info? ty).map (·.size) = some vs.length) (hp : PartAt cs o vs) :
 (loadVar ty ⟨g, o, none⟩).run P w = .ok (.agg vs.toArray) w := by
 have hl : (loadCells ⟨g, o, none⟩ vs.length).run P w = .ok vs.toArray w :=
  run_loadCells_list (P := P) w ⟨g, o, none⟩ vs (fun j v hv => by
   have hadd : (⟨g, o, none⟩ : Addr).add j = ⟨g, o + j, none⟩ := by unfold Addr.add; split <;> simp_all
   rw [hadd, cell_of_row w g (o + j) cs t fr hg]
   exact hp j v hv)
 cases hq : P.info? ty with
 | none => simp [hq] at hi
 | some i =>
   have hs : i.size = vs.length := by simpa [hq] using hi
   have hagg : (isAgg ty).run P w = .ok true w := by
    unfold isAgg
    rw [Sem.run_bind, run_underlying hu w]
    cases d <;> simp_all
   simp [loadVar, Sem.run_bind, hagg, sizeOf, typeInfo, hq, hs, hl]
def spliced (cs : Array Value) (o : Nat) (vs : List Value) : Array Value := (cs.toList.take o ++ vs ++ cs.toList.drop (o + vs.length)).toArray
theorem spliced_all (cs : Array Value) (vs : List Value) (h : cs.size = vs.length) : spliced cs 0 vs = vs.toArray := by
 unfold spliced
 rw [List.drop_of_length_le (by simp; omega)]
 simp
theorem storeVar_part (w : World) (g o : Nat) (t ty : TypeId) (cs : Array Value) (vs : List Value) (hg : w.heap[g]? = some (.cells cs t (0, 0))) (hi : (P.info? ty).map (·.size) = some vs.length)
 (hl : o + vs.length ≤ cs.size) (h1 : ∀ v ∈ vs, v.oneCell' = true) :
 (storeVar ty ⟨g, o, none⟩ (.agg vs.toArray)).run P w = .ok () (w.setRow g (spliced cs o vs)) := by
 have := run_storeCells_at (P := P) g o t vs 0 cs w hg (by simpa using hl) h1
 cases hq : P.info? ty with
 | none => simp [hq] at hi
 | some i =>
   have hs : vs.length = i.size := by simp [hq] at hi; omega
   simp only [Nat.add_zero] at this
   simp [storeVar, sizeOf, typeInfo, hq, Value.cells, hs, this, spliced]
theorem wp_load_part {o : Oper} {a : Act} {w : World} {K : Act → World → Prop} {Q : Exit → Act → World → Prop} (ty : TypeId) (x : Operand) (ho : o.op = .load ty x)
 (g off : Nat) (hx : a.eval x = .pointer (some ⟨g, off, none⟩)) {t : TypeId} {cs : Array Value} {fr : Nat × Nat} (d : TypeDesc) (vs : List Value) (hg : w.heap[g]? = some (.cells cs t fr))
 (hu : P.underlying ty = some d) (hd : (match d with | .struct _ | .array _ _ => true | _ => false) = true) (hi : (P.info? ty).map (·.size) = some vs.length) (hp : PartAt cs off vs)
 (h : K (a.put o.dst (.agg vs.toArray)) w) : o.wp P a w K Q := by
 unfold Oper.wp execOp
 simp only [ho, hx, Instr.loadAt, Instr.sureAddr, Sem.run_bind, Sem.run_pure, Result.andThen_ok, loadVar_part w g off t ty cs fr d vs hg hu hd hi hp]
 exact h
theorem wpList_load_part {ops : Array Oper} {rest : List Oper} {o : Oper} {a : Act} {w : World} {Q : Exit → Act → World → Prop} (hgd : o.guard = none) (ty : TypeId) (x : Operand) (ho : o.op = .load ty x)
 (g off : Nat) (hx : a.eval x = .pointer (some ⟨g, off, none⟩)) {t : TypeId} {cs : Array Value} {fr : Nat × Nat} (d : TypeDesc) (vs : List Value) (hg : w.heap[g]? = some (.cells cs t fr))
 (hu : P.underlying ty = some d) (hd : (match d with | .struct _ | .array _ _ => true | _ => false) = true) (hi : (P.info? ty).map (·.size) = some vs.length) (hp : PartAt cs off vs)
 (h : wpList P ops Q rest (a.put o.dst (.agg vs.toArray)) w) : wpList P ops Q (o :: rest) a w :=
 wpList_plain hgd fun _ hK => wp_load_part ty x ho g off hx d vs hg hu hd hi hp (hK _ _ h)
theorem wpList_store_part {ops : Array Oper} {rest : List Oper} {o : Oper} {a : Act} {w : World} {Q : Exit → Act → World → Prop} (hgd : o.guard = none) (ty : TypeId) (x y : Operand) (ho : o.op = .store ty x y)
 (g off : Nat) (hx : a.eval x = .pointer (some ⟨g, off, none⟩)) (vs : List Value) (hy : a.eval y = .agg vs.toArray) {t : TypeId} {cs : Array Value} (hg : w.heap[g]? = some (.cells cs t (0, 0)))
 (hi : (P.info? ty).map (·.size) = some vs.length) (hl : off + vs.length ≤ cs.size) (h1 : ∀ v ∈ vs, v.oneCell' = true)
 (h : wpList P ops Q rest (a.put o.dst undef) (w.setRow g (spliced cs off vs))) : wpList P ops Q (o :: rest) a w :=
 wpList_plain hgd fun _ hK => by
  unfold Oper.wp execOp
  simp only [ho, hx, hy, Instr.storeAt, Instr.sureAddr, Sem.run_bind, Sem.run_pure, Result.andThen_ok, storeVar_part w g off t ty cs vs hg hi hl h1]
  exact hK _ _ h
theorem results_cell_slot {fn : Func} {p q : Tmp} {ty : TypeId} (h : fn.results = #[.cell p ty, .tmp q]) (tmps : Array Value) (w : World) (g off : Nat) {t : TypeId} {cs : Array Value} {fr : Nat × Nat} (d : TypeDesc) (vs : List Value) (y : Value)
 (hp : tmps[p]? = some (.pointer (some ⟨g, off, none⟩))) (hq : tmps[q]? = some y) (hg : w.heap[g]? = some (.cells cs t fr))
 (hu : P.underlying ty = some d) (hd : (match d with | .struct _ | .array _ _ => true | _ => false) = true) (hi : (P.info? ty).map (·.size) = some vs.length) (hpt : PartAt cs off vs) :
 (results fn tmps).run P w = .ok (.tuple #[.agg vs.toArray, y]) w := by
 simp [results, h, hp, hq, asAddr, loadVar_part w g off t ty cs fr d vs hg hu hd hi hpt]
end
theorem row_set {w : World} {g : Nat} {old : Array Value} {t : TypeId} (cs : Array Value) (h : w.heap[g]? = some (.cells old t (0, 0))) : (w.setRow g cs).heap[g]? = some (.cells cs t (0, 0)) := setRow_heap w g old cs t (0, 0) h
end Go.Proofs.Ytopkmjiilnoeeaa.B
namespace Go.Proofs.Ytopkmjiilnoeeaa.B
set_option linter.unusedVariables false
set_option linter.unusedSimpArgs false
open Go.ChangeShapes Go.WideShapes Go.RowKit
def eqs (xs ys : List Int) : Bool := xs == ys
theorem eqItems_ints {P : Program} (d : Nat) (e : TypeId) (k : IntKind) (he : P.underlying e = some (.int k)) (xs ys : List Int) (w : World) : ∀ is : List Nat, (∀ i ∈ is, i < xs.length ∧ i < ys.length) →
 (Op.eqItems (d + 1) e 1 (xs.map (Value.int k)).toArray (ys.map (Value.int k)).toArray is).run P w = .ok (is.all fun i => xs.getD i 0 == ys.getD i 0) w := by
 intro is
 induction is with
 | nil => intro _; simp [Op.eqItems]
 | cons i is ih =>
   intro h
   obtain ⟨hx, hy⟩ := h i (by simp)
   have px : (part e (xs.map (Value.int k)).toArray (i * 1)).run P w = .ok (.int k (xs.getD i 0)) w := by
    simp [part, isAgg, run_underlying he, List.getD, List.getElem?_eq_getElem hx]
   have py : (part e (ys.map (Value.int k)).toArray (i * 1)).run P w = .ok (.int k (ys.getD i 0)) w := by
    simp [part, isAgg, run_underlying he, List.getD, List.getElem?_eq_getElem hy]
   simp only [Op.eqItems, Sem.run_bind, px, py, run_equalIn_int w d e k k _ _ he, Result.andThen_ok, List.all_cons]
   cases hb : (xs.getD i 0 == ys.getD i 0)
   · simp
   · simp only [Bool.not_true, Bool.false_eq_true, if_false, Bool.true_and]
     exact ih fun j hj => h j (by simp [hj])
theorem all_range (xs ys : List Int) (h : xs.length = ys.length) : ((List.range xs.length).all fun i => xs.getD i 0 == ys.getD i 0) = eqs xs ys := by
 unfold eqs
 rw [Bool.eq_iff_iff, List.all_eq_true, beq_iff_eq]
 constructor
 · intro hh
   apply List.ext_getElem h
   intro i h1 h2
   have := hh i (by simp [h1])
   simpa [List.getD, List.getElem?_eq_getElem h1, List.getElem?_eq_getElem h2] using this
 · rintro rfl i _; simp
end Go.Proofs.Ytopkmjiilnoeeaa.B
namespace Go.Proofs.Ytopkmjiilnoeeaa.B
set_option linter.unusedVariables false
set_option linter.unusedSimpArgs false
open Go.ChangeShapes Go.WideShapes Go.RowKit Go.Sort Go.MapKept
open Go.ChangeMaps (setBlock modify_eq_set set_perm)
section
variable {P : Program} {k : TypeId} {κ : Type} {ek : κ → Value} {ok : κ → Prop} {w : World} {b : Nat} {M : List (κ × Value)}
end
theorem step_append_own {P : Program} {ops : Array Oper} {o : Oper} {a : Act} {w : World} {K : Act → World → Prop} {Q : Exit → Act → World → Prop} {E : Prop}
 (hg : o.guard = none) (s x : Operand) (t : TypeId) (hop : o.op = Op.call { callee := Callee.builtin Builtin.append, args := #[s, x], argTypes := #[t, t] })
 (base : Nat) (e : TypeId) (i : TypeInfo) (z : Value) (size bytes : Nat) (ht : P.underlying t = some (.slice e)) (hi : P.info? e = some i) (hz : i.zero = some z)
 (hsize : i.size = size) (hby : i.bytes = bytes) (hzs : z.cells.size = size) (hsz : 0 < size)
 (v : Value) (n : Nat) (xs : List Value) (hs : a.eval s = v) (hown : w.ownsRow base e size v n xs)
 (ad : Addr) (m c : Nat) (news : List Value) (hx : a.eval x = .slice (some ad) m c) (hl : news.length = m * size) (hnews : ∀ j u, news[j]? = some u → w.cell? (ad.add j) = some u) (h1 : ∀ u ∈ news, u.oneCell' = true)
 (h63 : n + m ≤ maxLen) (hbytes : (n + m) * bytes ≤ 140737488355328) (hbase : base ≤ w.heap.size)
 (hK : ∀ v' w', w'.ownsRow base e size v' (n + m) (xs ++ news) → w.grownBy w' v.ownBlock → (v' = .slice none 0 0 ↔ v = .slice none 0 0 ∧ m = 0) → (v'.ownBlock = v.ownBlock ∨ v'.ownBlock = some w.heap.size) → K (a.put o.dst v') w') :
 if Region.wanted o (yielded ops a.tmps) = true then Oper.wp P o a w K Q else E := by
 have hw : Region.wanted o (yielded ops a.tmps) = true := by simp [Region.wanted, hg]
 rw [if_pos hw]
 obtain ⟨v', w', hr, h2, h3, h4, h5⟩ := run_append_own_at (P := P) w base t o.type e i z size bytes ht hi hz hsize hby hzs hsz v n xs hown ad m c news hl hnews h1 h63 hbytes hbase
 unfold Oper.wp execOp
 simp only [hop, resolve, invoke, builtin, Sem.run_bind, Sem.run_pure, Result.andThen_ok, List.map_toArray, List.map_cons, List.map_nil, hs, hx, hr]
 exact hK _ _ h2 h3 h4 h5
end Go.Proofs.Ytopkmjiilnoeeaa.B
namespace Go.Proofs.Ytopkmjiilnoeeaa.B
set_option linter.unusedVariables false
set_option linter.unusedSimpArgs false
open Go.ChangeShapes Go.WideShapes Go.RowKit Go.Sort
theorem row_below {w w' : World} {B : Nat} {e : TypeId} {z : Nat} {v : Value} {n : Nat} {xs : List Value} (h : w.ownsRow B e z v n xs) (hb : Below w.heap.size w w') : w'.ownsRow B e z v n xs := by
 refine ⟨h.1, ?_⟩
 rcases h.2 with h | ⟨g, cap, cur, h1, h2, h3, h4⟩
 · exact .inl h
 · exact .inr ⟨g, cap, cur, h1, h2, blk_below hb h3 (lt_of_block h3), h4⟩
theorem row_off {w w' : World} {B : Nat} {e : TypeId} {z : Nat} {v : Value} {n : Nat} {xs : List Value} {S : Nat → Prop} (h : w.ownsRow B e z v n xs) (ho : Off S w w') (hs : ∀ b, v.ownBlock = some b → ¬ S b) : w'.ownsRow B e z v n xs := by
 refine ⟨h.1, ?_⟩
 rcases h.2 with h | ⟨g, cap, cur, rfl, h2, h3, h4⟩
 · exact .inl h
 · exact .inr ⟨g, cap, cur, rfl, h2, ho.at h3 (hs g rfl), h4⟩
theorem row_mono {w : World} {B B2 : Nat} {e : TypeId} {z : Nat} {v : Value} {n : Nat} {xs : List Value} (h : w.ownsRow B e z v n xs) (hb : B2 ≤ B) : w.ownsRow B2 e z v n xs := by
 refine ⟨h.1, ?_⟩
 rcases h.2 with h | ⟨g, cap, cur, h1, h2, h3, h4⟩
 · exact .inl h
 · exact .inr ⟨g, cap, cur, h1, Nat.le_trans hb h2, h3, h4⟩
theorem row_block {w : World} {B : Nat} {e : TypeId} {z : Nat} {v : Value} {n : Nat} {xs : List Value} (h : w.ownsRow B e z v n xs) {b : Nat} (hb : v.ownBlock = some b) : B ≤ b ∧ b < w.heap.size := by
 obtain ⟨hl, ho⟩ := h
 rcases ho with ⟨rfl, h2⟩ | ⟨g, cap, cur, rfl, hB, hg, hkc, hcm, hcs, htk⟩
 · cases hb
 · cases hb
   exact ⟨hB, lt_of_block hg⟩
theorem row_cells {w : World} {B : Nat} {e : TypeId} {z : Nat} {v : Value} {n : Nat} {xs : List Value} (h : w.ownsRow B e z v n xs) : ∃ y cap, v = .slice y n cap ∧ n ≤ cap ∧ cap ≤ maxLen ∧ ((n = 0 ∧ (y = none ∨ ∃ g, y = some ⟨g, 0, none⟩ ∧ B ≤ g ∧ g < w.heap.size)) ∨ ∃ g, y = some ⟨g, 0, none⟩ ∧ B ≤ g ∧ g < w.heap.size ∧ ∀ j u, xs[j]? = some u → w.cell? ⟨g, j, none⟩ = some u) := by
 obtain ⟨hl, ho⟩ := h
 rcases ho with ⟨h1, h2⟩ | ⟨g, cap, cur, rfl, hB, hg, hkc, hcm, hcs, htk⟩
 · exact ⟨none, 0, by rw [h1, h2], by omega, Nat.zero_le _, .inl ⟨h2, .inl rfl⟩⟩
 · refine ⟨_, cap, rfl, hkc, hcm, .inr ⟨g, rfl, hB, lt_of_block hg, fun j u hu => ?_⟩⟩
   have hj : j < n * z := by have := (List.getElem?_eq_some_iff.1 hu).1; omega
   rw [← htk, List.getElem?_take, if_pos hj] at hu
   rw [blk_cell hg]
   simpa using hu
set_option maxRecDepth 100000
abbrev Kp := Int × Int
abbrev tKp : TypeId := 27
abbrev tAt : TypeId := 65
abbrev tI : TypeId := 3
def kl (k : Kp) : List Value := [.int .i64 k.1, .int .i64 k.2]
def kv (k : Kp) : Value := .agg (kl k).toArray
def th3 (x : Kp × Int) : List Value := [.int .i64 x.1.1, .int .i64 x.1.2, .int .i64 x.2]
def thf (L : List (Kp × Int)) : List Value := L.flatMap th3
theorem thf_len (L : List (Kp × Int)) : (thf L).length = L.length * 3 := by
 induction L with
 | nil => rfl
 | cons a L ih => show (th3 a ++ thf L).length = _; rw [List.length_append, ih, List.length_cons]; show 3 + _ = _; omega
theorem thf_snoc (L : List (Kp × Int)) (x : Kp × Int) : thf (L ++ [x]) = thf L ++ th3 x := by unfold thf; rw [List.flatMap_append]; simp
theorem thf_get (L : List (Kp × Int)) (k : Nat) (x : Kp × Int) (h : L[k]? = some x) (j : Nat) (hj : j < 3) : (thf L)[k * 3 + j]? = (th3 x)[j]? := by
 induction L generalizing k with
 | nil => cases h
 | cons a L ih =>
   show (th3 a ++ thf L)[k * 3 + j]? = _
   cases k with
   | zero =>
     simp at h
     subst h
     rw [List.getElem?_append_left (by show 0 * 3 + j < 3; omega)]
     congr 1
     omega
   | succ k =>
     rw [List.getElem?_append_right (by show 3 ≤ (k + 1) * 3 + j; omega), show (k + 1) * 3 + j - (th3 a).length = k * 3 + j by show (k + 1) * 3 + j - 3 = _; omega]
     exact ih k (by simpa using h)
theorem thf_one (L : List (Kp × Int)) : ∀ u ∈ thf L, u.oneCell' = true := fun u hu => by
 unfold thf at hu
 obtain ⟨x, _, hx⟩ := List.mem_flatMap.1 hu
 unfold th3 at hx
 simp only [List.mem_cons, List.not_mem_nil, or_false] at hx
 rcases hx with rfl | rfl | rfl <;> rfl
theorem infoAt : (Try.prog.info? 65).map (fun i => (i.zero, i.size, i.bytes)) = some (some (.agg #[.int .i64 0, .int .i64 0, .int .i64 0]), 3, 24) := by kernel_rfl
theorem infoI : (Try.prog.info? 3).map (fun i => (i.zero, i.size, i.bytes)) = some (some (.int .i64 0), 1, 8) := by kernel_rfl
def TrAt (w : World) (B : Nat) (v : Value) (L : List (Kp × Int)) : Prop := w.ownsRow B tAt 3 v L.length (thf L)
def oTh (x : Kp × Int) : Obj := .cells (th3 x).toArray tAt (0, 0)
theorem tr_nil (w : World) (B : Nat) : TrAt w B (.slice none 0 0) [] := World.ownsRow_nil w B tAt 3
section
variable {w w' : World} {B : Nat} {v : Value} {L : List (Kp × Int)}
theorem TrAt.below (h : TrAt w B v L) (hb : Below w.heap.size w w') : TrAt w' B v L := row_below h hb
theorem TrAt.off {S : Nat → Prop} (h : TrAt w B v L) (ho : Off S w w') (hs : ∀ b, v.ownBlock = some b → ¬ S b) : TrAt w' B v L := row_off h ho hs
theorem TrAt.mono {B2 : Nat} (h : TrAt w B v L) (hb : B2 ≤ B) : TrAt w B2 v L := row_mono h hb
theorem TrAt.block (h : TrAt w B v L) {b : Nat} (hb : v.ownBlock = some b) : B ≤ b ∧ b < w.heap.size := row_block h hb
theorem TrAt.form (h : TrAt w B v L) : ∃ y cap, v = .slice y L.length cap ∧ L.length ≤ cap ∧ cap ≤ maxLen ∧ (L = [] ∨ ∃ g, y = some ⟨g, 0, none⟩ ∧ B ≤ g ∧ g < w.heap.size ∧ ∀ k x, L[k]? = some x → ∀ j u, (th3 x)[j]? = some u → w.cell? ⟨g, k * 3 + j, none⟩ = some u) := by
 obtain ⟨y, cap, rfl, h1, h2, h3⟩ := row_cells h
 refine ⟨y, cap, rfl, h1, h2, ?_⟩
 rcases h3 with ⟨h0, _⟩ | ⟨g, rfl, hB, hg, hc⟩
 · exact .inl (List.eq_nil_of_length_eq_zero h0)
 · refine .inr ⟨g, rfl, hB, hg, fun k x hx j u hu => hc _ _ ?_⟩
   have hj : j < 3 := by have := (List.getElem?_eq_some_iff.1 hu).1; exact this
   rw [thf_get L k x hx j hj]
   exact hu
end
theorem TrAt.cellk {w : World} {B n cap : Nat} {y : Option Addr} {L : List (Kp × Int)} (h : TrAt w B (.slice y n cap) L) {k : Nat} {x : Kp × Int} (hk : L[k]? = some x) : n = L.length ∧ n ≤ cap ∧ cap ≤ 2 ^ 63 - 1 ∧ ∃ g, y = some ⟨g, 0, none⟩ ∧ g < w.heap.size ∧ w.cell? ⟨g, k * 3, none⟩ = some (.int .i64 x.1.1) ∧ w.cell? ⟨g, k * 3 + 1, none⟩ = some (.int .i64 x.1.2) ∧ w.cell? ⟨g, k * 3 + 2, none⟩ = some (.int .i64 x.2) := by
 obtain ⟨y', cap', e, h1, h2, h3⟩ := h.form
 cases e
 have hl : k < L.length := (List.getElem?_eq_some_iff.1 hk).1
 rcases h3 with h3 | ⟨g, rfl, hB, hg, hc⟩
 · rw [h3] at hl; cases hl
 · exact ⟨rfl, h1, h2, g, rfl, hg, hc k x hk 0 _ rfl, hc k x hk 1 _ rfl, hc k x hk 2 _ rfl⟩
def ivs (L : List Int) : List Value := L.map (.int .i64)
def IsAt (w : World) (B : Nat) (v : Value) (L : List Int) : Prop := w.ownsRow B tI 1 v L.length (ivs L)
def oI (x : Int) : Obj := .cells #[.int .i64 x] tI (0, 0)
theorem is_nil (w : World) (B : Nat) : IsAt w B (.slice none 0 0) [] := World.ownsRow_nil w B tI 1
def RdI (w : World) (v : Value) (L : List Int) : Prop := ∃ y cap, v = .slice y L.length cap ∧ L.length ≤ cap ∧ cap ≤ maxLen ∧ (L = [] ∨ ∃ g off, y = some ⟨g, off, none⟩ ∧ g < w.heap.size ∧ ∀ k i, L[k]? = some i → w.cell? ⟨g, off + k, none⟩ = some (.int .i64 i))
section
variable {w w' : World} {B : Nat} {v : Value} {L : List Int}
theorem IsAt.below (h : IsAt w B v L) (hb : Below w.heap.size w w') : IsAt w' B v L := row_below h hb
theorem IsAt.off {S : Nat → Prop} (h : IsAt w B v L) (ho : Off S w w') (hs : ∀ b, v.ownBlock = some b → ¬ S b) : IsAt w' B v L := row_off h ho hs
theorem IsAt.mono {B2 : Nat} (h : IsAt w B v L) (hb : B2 ≤ B) : IsAt w B2 v L := row_mono h hb
theorem IsAt.block (h : IsAt w B v L) {b : Nat} (hb : v.ownBlock = some b) : B ≤ b ∧ b < w.heap.size := row_block h hb
theorem IsAt.rd (h : IsAt w B v L) : RdI w v L := by
 obtain ⟨y, cap, rfl, h1, h2, h3⟩ := row_cells h
 refine ⟨y, cap, rfl, h1, h2, ?_⟩
 rcases h3 with ⟨h0, _⟩ | ⟨g, rfl, hB, hg, hc⟩
 · exact .inl (List.eq_nil_of_length_eq_zero h0)
 · refine .inr ⟨g, 0, rfl, hg, fun k i hi => ?_⟩
   rw [Nat.zero_add]
   exact hc k _ (by unfold ivs; rw [List.getElem?_map, hi]; rfl)
theorem RdI.keep (h : RdI w v L) (hb : Below w.heap.size w w') : RdI w' v L := by
 obtain ⟨y, cap, rfl, h1, h2, h⟩ := h
 refine ⟨y, cap, rfl, h1, h2, h.imp id ?_⟩
 rintro ⟨g, off, rfl, h3, h4⟩
 exact ⟨g, off, rfl, Nat.lt_of_lt_of_le h3 hb.size, fun k i hi => (hb.cell (p := ⟨g, off + k, none⟩) h3).trans (h4 k i hi)⟩
end
section
variable {ops : Array Oper} {rest : List Oper} {o : Oper} {a : Act} {w : World} {Q : Exit → Act → World → Prop}
theorem buildI (hgd : o.guard = none) (x : Operand) (ho : o.op = .buildSlice 38 1 #[(0, x)]) {i : Int} (hx : a.eval x = .int .i64 i)
 (h : wpList Try.prog ops Q rest (a.put o.dst (.slice (some ⟨w.heap.size, 0, none⟩) 1 1)) (w.alloc (oI i))) : wpList Try.prog ops Q (o :: rest) a w := by
 obtain ⟨i0, hi, hz0, hz1, hz2⟩ := info_parts infoI
 refine wpList_buildSlice hgd _ 3 1 #[(0, x)] ho #[.int .i64 i] i0 _ Try.underlying38 hi hz0 (by rw [hz1]; decide) (by rw [hz1]; decide) ?_ h
 rw [hz1]
 simp only [List.map_toArray, List.map_cons, List.map_nil, hx]
 rw [show Array.range (1 * 1) = #[0] by decide]
 simp [Instr.fill, Value.cells]
theorem appendI (hgd : o.guard = none) (s x : Operand) (ho : o.op = .call { callee := .builtin .append, args := #[s, x], argTypes := #[38, 38] })
 {B g : Nat} {v : Value} {L : List Int} {i : Int} (hs : a.eval s = v) (hO : IsAt w B v L) (hx : a.eval x = .slice (some ⟨g, 0, none⟩) 1 1) (hy : w.heap[g]? = some (oI i)) (hk : L.length < 5000) (hB : B ≤ w.heap.size)
 (h : ∀ v' w', IsAt w' B v' (L ++ [i]) → Off (fun b => v.ownBlock = some b) w w' → (v'.ownBlock = v.ownBlock ∨ v'.ownBlock = some w.heap.size) → wpList Try.prog ops Q rest (a.put o.dst v') w') : wpList Try.prog ops Q (o :: rest) a w := by
 obtain ⟨i0, hi, hz0, hz1, hz2⟩ := info_parts infoI
 refine wpList_append_own_at w hgd s x _ ho B 3 i0 _ 1 8 Try.underlying38 hi hz0 hz1 hz2 rfl (by decide) v L.length (ivs L) hs hO ⟨g, 0, none⟩ 1 1 [.int .i64 i] hx rfl (fun j u hu => ?_) (fun u hu => ?_) (by unfold maxLen; omega) (by omega) hB fun v' w' h3 h4 _ hat => ?_
 · rw [Addr.add_lit, Nat.zero_add, blk_cell hy, List.getElem?_toArray]
   exact hu
 · simp only [List.mem_cons, List.not_mem_nil, or_false] at hu
   rw [hu]
   rfl
 · refine h v' w' ?_ (Off.ofGrown h4 fun k e => e) hat
   unfold IsAt ivs
   rw [List.map_append, List.length_append]
   exact h3
theorem buildTr (hgd : o.guard = none) (x : Operand) (ho : o.op = .buildSlice 29 1 #[(0, x)]) {i : Kp × Int} (hx : a.eval x = .agg (th3 i).toArray)
 (h : wpList Try.prog ops Q rest (a.put o.dst (.slice (some ⟨w.heap.size, 0, none⟩) 1 1)) (w.alloc (oTh i))) : wpList Try.prog ops Q (o :: rest) a w := by
 obtain ⟨i0, hi, hz0, hz1, hz2⟩ := info_parts infoAt
 refine wpList_buildSlice hgd _ 65 1 #[(0, x)] ho (th3 i).toArray i0 _ Try.underlying29 hi hz0 (by rw [hz1]; decide) (by rw [hz1]; decide) ?_ h
 rw [hz1]
 simp only [List.map_toArray, List.map_cons, List.map_nil, hx]
 rw [show Array.range (1 * 3) = #[0, 1, 2] by decide]
 simp [Instr.fill, Value.cells, th3]
theorem appendTr (hgd : o.guard = none) (s x : Operand) (ho : o.op = .call { callee := .builtin .append, args := #[s, x], argTypes := #[29, 29] })
 {B g : Nat} {v : Value} {L : List (Kp × Int)} {i : Kp × Int} (hs : a.eval s = v) (hO : TrAt w B v L) (hx : a.eval x = .slice (some ⟨g, 0, none⟩) 1 1) (hy : w.heap[g]? = some (oTh i)) (hk : L.length < 5000) (hB : B ≤ w.heap.size)
 (h : ∀ v' w', TrAt w' B v' (L ++ [i]) → Off (fun b => v.ownBlock = some b) w w' → (v'.ownBlock = v.ownBlock ∨ v'.ownBlock = some w.heap.size) → wpList Try.prog ops Q rest (a.put o.dst v') w') : wpList Try.prog ops Q (o :: rest) a w := by
 obtain ⟨i0, hi, hz0, hz1, hz2⟩ := info_parts infoAt
 refine wpList_append_own_at w hgd s x _ ho B 65 i0 _ 3 24 Try.underlying29 hi hz0 hz1 hz2 rfl (by decide) v L.length (thf L) hs hO ⟨g, 0, none⟩ 1 1 (th3 i) hx rfl (fun j u hu => ?_) (fun u hu => ?_) (by unfold maxLen; omega) (by omega) hB fun v' w' h3 h4 _ hat => ?_
 · rw [Addr.add_lit, Nat.zero_add, blk_cell hy, List.getElem?_toArray]
   exact hu
 · exact thf_one [i] u (by unfold thf; simpa using hu)
 · refine h v' w' ?_ (Off.ofGrown h4 fun k e => e) hat
   unfold TrAt
   rw [thf_snoc, List.length_append]
   exact h3
theorem run_append_zero (g : Nat) (y : Option Addr) (cap : Nat) (ty : TypeId) (w : World) : (Builtin.append_ #[29, 29] ty #[.slice (some ⟨g, 0, none⟩) 0 0, .slice y 0 cap]).run Try.prog w = .ok (.slice (some ⟨g, 0, none⟩) 0 0) w := by
 obtain ⟨i0, hi, hz0, hz1, hz2⟩ := info_parts infoAt
 cases y <;> simp [Builtin.append_, run_underlying (Try.underlying29), sizeOf, typeInfo, hi, Builtin.lenOf, Builtin.firstCells, loadCells, loadCellsFrom, storeCells]
theorem emptyTr (W : World) (B : Nat) (h : B ≤ W.heap.size) : TrAt (W.alloc (.cells #[] tAt (0, 0))) B (.slice (some ⟨W.heap.size, 0, none⟩) 0 0) [] :=
 World.ownsRow_made W #[] 0 h (by unfold maxLen; omega) rfl
end
section
variable {ops : Array Oper} {o : Oper} {a : Act} {w : World} {K : Act → World → Prop} {Q : Exit → Act → World → Prop} {E : Prop}
theorem stepTr (hgd : o.guard = none) (s x : Operand) (ho : o.op = .call { callee := .builtin .append, args := #[s, x], argTypes := #[29, 29] })
 {B g : Nat} {v : Value} {L : List (Kp × Int)} {i : Kp × Int} (hs : a.eval s = v) (hO : TrAt w B v L) (hx : a.eval x = .slice (some ⟨g, 0, none⟩) 1 1) (hy : w.heap[g]? = some (oTh i)) (hk : L.length < 5000) (hB : B ≤ w.heap.size)
 (h : ∀ v' w', TrAt w' B v' (L ++ [i]) → Off (fun b => v.ownBlock = some b) w w' → (v'.ownBlock = v.ownBlock ∨ v'.ownBlock = some w.heap.size) → K (a.put o.dst v') w') : if Region.wanted o (yielded ops a.tmps) = true then Oper.wp Try.prog o a w K Q else E := by
 obtain ⟨i0, hi, hz0, hz1, hz2⟩ := info_parts infoAt
 refine step_append_own hgd s x _ ho B 65 i0 _ 3 24 Try.underlying29 hi hz0 hz1 hz2 rfl (by decide) v L.length (thf L) hs hO ⟨g, 0, none⟩ 1 1 (th3 i) hx rfl (fun j u hu => ?_) (fun u hu => ?_) (by unfold maxLen; omega) (by omega) hB fun v' w' h3 h4 _ hat => ?_
 · rw [Addr.add_lit, Nat.zero_add, blk_cell hy, List.getElem?_toArray]
   exact hu
 · exact thf_one [i] u (by unfold thf; simpa using hu)
 · refine h v' w' ?_ (Off.ofGrown h4 fun k e => e) hat
   unfold TrAt
   rw [thf_snoc, List.length_append]
   exact h3
theorem stepAllTr (hgd : o.guard = none) (s x : Operand) (ho : o.op = .call { callee := .builtin .append, args := #[s, x], argTypes := #[29, 29] })
 {B B2 g : Nat} {v : Value} {L : List (Kp × Int)} (hs : a.eval s = .slice (some ⟨g, 0, none⟩) 0 0) (hO : TrAt w B (.slice (some ⟨g, 0, none⟩) 0 0) []) (hx : a.eval x = v) (hR : TrAt w B2 v L) (hk : L.length < 5000) (hB : B ≤ w.heap.size)
 (h : ∀ v' w', TrAt w' B v' L → Off (· = g) w w' → K (a.put o.dst v') w') : if Region.wanted o (yielded ops a.tmps) = true then Oper.wp Try.prog o a w K Q else E := by
 obtain ⟨y, cap, rfl, h1, h2, h3⟩ := row_cells hR
 rcases h3 with ⟨h0, _⟩ | ⟨g2, rfl, hB2, hg2, hc⟩
 · have hrun := run_append_zero g y cap o.type w
   have hL : L = [] := List.eq_nil_of_length_eq_zero h0
   subst hL
   have hfin := h (.slice (some ⟨g, 0, none⟩) 0 0) w hO (Off.refl _ _)
   have hx : a.eval x = .slice y 0 cap := hx
   have hw : Region.wanted o (yielded ops a.tmps) = true := by simp [Region.wanted, hgd]
   rw [if_pos hw]
   unfold Oper.wp execOp
   simp only [ho, resolve, invoke, builtin, Sem.run_bind, Sem.run_pure, Result.andThen_ok, List.map_toArray, List.map_cons, List.map_nil, hs, hx, hrun]
   exact hfin
 · obtain ⟨i0, hi, hz0, hz1, hz2⟩ := info_parts infoAt
   refine step_append_own hgd s x _ ho B 65 i0 _ 3 24 Try.underlying29 hi hz0 hz1 hz2 rfl (by decide) _ 0 [] hs hO ⟨g2, 0, none⟩ L.length cap (thf L) hx (thf_len L) (fun j u hu => ?_) (thf_one L) (by unfold maxLen; omega) (by omega) hB fun v' w' h5 h6 _ _ => ?_
   · rw [Addr.add_lit, Nat.zero_add]
     exact hc j u hu
   · rw [Nat.zero_add, List.nil_append] at h5
     exact h v' w' h5 (Off.ofGrown h6 fun k hk => by
      have : some g = some k := hk
      cases this; rfl)
end
theorem eqKp (x y : Kp) (w : World) : (Op.equalIn 10000 27 (kv x) (kv y)).run Try.prog w = .ok (decide (x = y)) w := by
 have hi : (Try.prog.info? 3).isSome = true := by kernel_rfl
 obtain ⟨i, hi⟩ := Option.isSome_iff_exists.1 hi
 have hc : Try.prog.cellsOf 3 = 1 := by kernel_rfl
 have h := run_equalIn_array w 9999 (i := i) (kl x).toArray (kl y).toArray Try.underlying27 hi
 rw [hc] at h
 have e1 : (([x.1, x.2] : List Int).map (Value.int .i64)).toArray = (kl x).toArray := rfl
 have e2 : (([y.1, y.2] : List Int).map (Value.int .i64)).toArray = (kl y).toArray := rfl
 have g := eqItems_ints 9998 3 .i64 Try.underlying3 [x.1, x.2] [y.1, y.2] w (List.range 2) (by intro i hi; simpa using hi)
 rw [e1, e2] at g
 have r := all_range [x.1, x.2] [y.1, y.2] rfl
 have r2 : eqs [x.1, x.2] [y.1, y.2] = decide (x = y) := by
  obtain ⟨x1, x2⟩ := x
  obtain ⟨y1, y2⟩ := y
  unfold eqs
  rw [Bool.eq_iff_iff]
  simp
 rw [r2] at r
 exact (h.trans g).trans (congrArg (fun b => Result.ok b w) r)
theorem guardKp (x y : Operand) (k j : Kp) (w : World) : (eqGuard .eql 27 x y (kv k) (kv j)).run Try.prog w = .ok () w := by
 have e : Try.prog.eqGuardType Try.prog.depth 27 = false := by kernel_rfl
 simp [eqGuard, Sem.run_bind, run_program, e, kv]
theorem guardKpN (x y : Operand) (k j : Kp) (w : World) : (eqGuard .neq 27 x y (kv k) (kv j)).run Try.prog w = .ok () w := by
 have e : Try.prog.eqGuardType Try.prog.depth 27 = false := by kernel_rfl
 simp [eqGuard, Sem.run_bind, run_program, e, kv]
theorem runKp (x y : Kp) (w : World) : (binOp .eql 27 (kv x) (kv y)).run Try.prog w = .ok (.bool (decide (x = y))) w := by
 have e := eqKp x y w
 unfold kv at e ⊢
 simp only [binOp, Op.equal, Sem.run_bind, Op.maxDepth]
 rw [e]
 rfl
theorem runKpN (x y : Kp) (w : World) : (binOp .neq 27 (kv x) (kv y)).run Try.prog w = .ok (.bool (!decide (x = y))) w := by
 have e := eqKp x y w
 unfold kv at e ⊢
 simp only [binOp, Op.equal, Sem.run_bind, Op.maxDepth]
 rw [e]
 rfl
theorem qeqKp {C : World → Prop} {o : Oper} {a : Act} {K : Act → Prop} (x y : Operand) (u : TypeId) (ho : o.op = .binOp .eql 27 x y u) {k j : Kp} (hx : a.eval x = kv k) (hy : a.eval y = kv j)
 (h : K (a.put o.dst (.bool (decide (k = j))))) : o.quiet Try.prog a C K :=
 ⟨_, fun w hw => by
  unfold Oper.quietAt execOp
  simp only [ho, hx, hy, Sem.run_bind, guardKp, runKp, Result.andThen_ok]
  exact ⟨rfl, rfl⟩, h⟩
theorem qneKp {C : World → Prop} {o : Oper} {a : Act} {K : Act → Prop} (x y : Operand) (u : TypeId) (ho : o.op = .binOp .neq 27 x y u) {k j : Kp} (hx : a.eval x = kv k) (hy : a.eval y = kv j)
 (h : K (a.put o.dst (.bool (!decide (k = j))))) : o.quiet Try.prog a C K :=
 ⟨_, fun w hw => by
  unfold Oper.quietAt execOp
  simp only [ho, hx, hy, Sem.run_bind, guardKpN, runKpN, Result.andThen_ok]
  exact ⟨rfl, rfl⟩, h⟩
end Go.Proofs.Ytopkmjiilnoeeaa.B
