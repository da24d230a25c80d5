/- Several texts in one: Small words of all stages: returned values, worlds that grow. Layer 16 (pool) in plain numbers: places with generations and .. -/
import Derived.Test.YtggmllobcemhhaaRows
import Derived.WalkKit
import Derived.WalkLawsBesides
import Derived.Lib.Hide
import Derived.Lib.QuietBelow
import Derived.Laws.ResultCell
import Derived.Deep.QuietTactic
import Derived.BigQuiet
import Derived.Laws.BitsLemmas
import Derived.IntWalk
import Derived.Laws.Rows
import Derived.Laws.CopyRow
import Derived.Deep.Quiet
import Derived.Maps.Own
import Derived.Maps.OwnOps
import Derived.WideKeyEntry
import Derived.DeepKeys4
namespace Go.Proofs.Ytggmllobcemhhaa.B
set_option linter.unusedVariables false
set_option linter.unusedSimpArgs false
open Go.ChangeShapes Go.WideShapes Go.RowKit Go.Sort
theorem Hd {p : Prop} (h : p) : Go.RowKit.Hid p := h
abbrev RetB (P : Program) (f : FuncId) (args : Array Value) (w : World) (v : Value) : Prop := Calls P f args w fun e w' => e = .returned v ∧ Below w.heap.size w w'
theorem ret_int {k : IntKind} {a b : Int} (h : a = b) : Ending.returned (.int k a) = .returned (.int k b) := by rw [h]
theorem ret_bool {a b : Bool} (h : a = b) : Ending.returned (.bool a) = .returned (.bool b) := by rw [h]
theorem tr {a b c : World} (h : Below a.heap.size a b) (k : Below b.heap.size b c) : Below a.heap.size a c := h.trans (k.mono h.size)
theorem trA {a b : World} (h : Below a.heap.size a b) (o : Obj) : Below a.heap.size a (b.alloc o) := h.alloc h.size o
theorem trN {a b : World} (h : Below a.heap.size a b) (n : Nat) : Below a.heap.size a (b.drewN n) := h.trans ⟨rfl, rfl, rfl, Nat.le_refl _, fun _ _ => rfl⟩
theorem trD {a b : World} (h : Below a.heap.size a b) : Below a.heap.size a b.drew := h.drew
theorem tr0 (a : World) : Below a.heap.size a a := Below.refl _ _
theorem bcell {W w1 : World} (hb : Below W.heap.size W w1) : (∀ b o, b < W.heap.size → w1.cell? ⟨b, o, none⟩ = W.cell? ⟨b, o, none⟩) ∧ (∀ b o, b < W.heap.size → w1.frozen? ⟨b, o, none⟩ = W.frozen? ⟨b, o, none⟩) :=
 ⟨fun b o h => hb.cell (p := ⟨b, o, none⟩) h, fun b o h => hb.frozen (p := ⟨b, o, none⟩) h⟩
theorem gcell (W : World) (d : Nat) (os : Array Obj) (b o : Nat) (h : b < W.heap.size) : (grow (redrawn W d) os).cell? ⟨b, o, none⟩ = W.cell? ⟨b, o, none⟩ := (bcell (below_regrown W d os)).1 b o h
theorem gfrozen (W : World) (d : Nat) (os : Array Obj) (b o : Nat) (h : b < W.heap.size) : (grow (redrawn W d) os).frozen? ⟨b, o, none⟩ = W.frozen? ⟨b, o, none⟩ := (bcell (below_regrown W d os)).2 b o h
theorem blk_cell {w : World} {b : Nat} {cs : Array Value} {t : TypeId} (h : w.heap[b]? = some (.cells cs t (0, 0))) (j : Nat) : w.cell? ⟨b, j, none⟩ = cs[j]? := by simp [World.cell?, h]
theorem blk_free {w : World} {b : Nat} {cs : Array Value} {t : TypeId} (h : w.heap[b]? = some (.cells cs t (0, 0))) (j : Nat) : w.frozen? ⟨b, j, none⟩ = false := by simp [World.frozen?, h]
theorem blk_set {w : World} {b : Nat} {cs : Array Value} {t : TypeId} (h : w.heap[b]? = some (.cells cs t (0, 0))) (j : Nat) (v : Value) : (w.setCell ⟨b, j, none⟩ v).heap[b]? = some (.cells (cs.setIfInBounds j v) t (0, 0)) :=
 heap_setCell_same w b j cs t v h
theorem blk_below {B : Nat} {w w' : World} (hb : Below B w w') {b : Nat} {o : Obj} (h : w.heap[b]? = some o) (hl : b < B) : w'.heap[b]? = some o := by rw [hb.block b hl]; exact h
theorem blk_new (w : World) (o : Obj) : (w.alloc o).heap[w.heap.size]? = some o := by show (w.heap.push o)[w.heap.size]? = _; simp
theorem blk_old (w : World) (o : Obj) {b : Nat} (h : b < w.heap.size) : (w.alloc o).heap[b]? = w.heap[b]? := by show (w.heap.push o)[b]? = _; rw [Array.getElem?_push, if_neg (by omega)]
theorem blk_else {w : World} {b : Nat} {o : Obj} (h : w.heap[b]? = some o) (k j : Nat) (v : Value) (hne : b ≠ k) : (w.setCell ⟨k, j, none⟩ v).heap[b]? = some o := by
 rw [Below.heap_setCell w ⟨k, j, none⟩ v b hne]; exact h
end Go.Proofs.Ytggmllobcemhhaa.B
namespace Go.Proofs.Ytggmllobcemhhaa.B
set_option linter.unusedVariables false
set_option linter.unusedSimpArgs false
structure Po where
 g : Int
 tk : Bool
 d : Int
 p : Int
 o : Int
def pz0 : Po := ⟨0, false, 0, 0, 0⟩
def pz : Po := ⟨1, false, 0, 0, 0⟩
def u64r (a : Int) : Prop := 0 ≤ a ∧ a < 18446744073709551616
structure Po.ok (b : Nat) (c : Po) : Prop where
 g0 : 1 ≤ c.g
 g1 : c.g ≤ b
 d : u64r c.d
 p : u64r c.p
 o : u64r c.o
theorem pz_ok : pz.ok 1 := ⟨by decide, by decide, ⟨by decide, by decide⟩, ⟨by decide, by decide⟩, ⟨by decide, by decide⟩⟩
theorem Po.ok.more {b b2 : Nat} {c : Po} (h : c.ok b) (hb : b ≤ b2) : c.ok b2 := ⟨h.g0, by have := h.g1; omega, h.d, h.p, h.o⟩
def pupd (t : Nat → Po) (k : Nat) (x : Po) (i : Nat) : Po := if i = k then x else t i
theorem pupd_at (t : Nat → Po) (k : Nat) (x : Po) : pupd t k x k = x := if_pos rfl
theorem pupd_ne (t : Nat → Po) {k i : Nat} (x : Po) (h : i ≠ k) : pupd t k x i = t i := if_neg h
def hd (c : Po) (i : Nat) : Int := c.g * 4096 + i
def Po.put (c : Po) (d p o : Int) : Po := ⟨c.g, true, d, p, o⟩
def Po.gone (c : Po) : Po := ⟨c.g + 1, false, 0, 0, 0⟩
def fnd (n : Nat) (t : Nat → Po) (h : Int) : Option Nat := if (h % 4096).toNat < n ∧ (t (h % 4096).toNat).tk = true ∧ (t (h % 4096).toNat).g = h / 4096 then some (h % 4096).toNat else none
def fndI (n : Nat) (t : Nat → Po) (h : Int) : Int := match fnd n t h with | some i => i | none => -1
def freeB (t : Nat → Po) : Nat → Nat → Option Nat
 | 0, _ => none
 | k + 1, i => if (t i).tk = true then freeB t k (i + 1) else some i
def free (n : Nat) (t : Nat → Po) : Option Nat := freeB t n 0
def hdsB (t : Nat → Po) : Nat → List Int
 | 0 => []
 | k + 1 => hdsB t k ++ (if (t k).tk = true then [hd (t k) k] else [])
def setT (n : Nat) (t : Nat → Po) (h d p o : Int) : Nat → Po := match fnd n t h with | some i => pupd t i ((t i).put d p o) | none => t
def dropT (n : Nat) (t : Nat → Po) (h : Int) : Nat → Po := match fnd n t h with | some i => pupd t i (t i).gone | none => t
def clearT (t : Nat → Po) (i : Nat) : Po := if (t i).tk = true then (t i).gone else t i
end Go.Proofs.Ytggmllobcemhhaa.B
namespace Go.Proofs.Ytggmllobcemhhaa.B
set_option linter.unusedVariables false
set_option linter.unusedSimpArgs false
open Go.RowKit Go.Sort
section
variable {P : Program}
def PartAt (cs : Array Value) (o : Nat) (vs : List Value) : Prop := ∀ j v, vs[j]? = some v → cs[o + j]? = some v
theorem part_all (vs : List Value) : PartAt vs.toArray 0 vs := fun j v h => by simpa using h
theorem loadVar_part (w : World) (g o : Nat) (t ty : TypeId) (cs : Array Value) (fr : Nat × Nat) (d : TypeDesc) (vs : List Value) (hg : w.heap[g]? = some (.cells cs t fr))
 (hu : P.underlying ty = some d) (hd : (match d with | .struct _ | .array _ _ => true | _ => false) = true) (hi : (P.info? ty).map (·.size) = some vs.length) (hp : PartAt cs o vs) :
 (loadVar ty ⟨g, o, none⟩).run P w = .ok (.agg vs.toArray) w := by
 have hl : (loadCells ⟨g, o, none⟩ vs.length).run P w = .ok vs.toArray w :=
  run_loadCells_list (P := P) w ⟨g, o, none⟩ vs (fun j v hv => by
   have hadd : (⟨g, o, none⟩ : Addr).add j = ⟨g, o + j, none⟩ := by unfold Addr.add; split <;> simp_all
   rw [hadd, cell_of_row w g (o + j) cs t fr hg]
   exact hp j v hv)
 cases hq : P.info? ty with
 | none => simp [hq] at hi
 | some i =>
   have hs : i.size = vs.length := by simpa [hq] using hi
   have hagg : (isAgg ty).run P w = .ok true w := by
    unfold isAgg
    rw [Sem.run_bind, run_underlying hu w]
    cases d <;> simp_all
   simp [loadVar, Sem.run_bind, hagg, sizeOf, typeInfo, hq, hs, hl]
def spliced (cs : Array Value) (o : Nat) (vs : List Value) : Array Value := (cs.toList.take o ++ vs ++ cs.toList.drop (o + vs.length)).toArray
theorem spliced_all (cs : Array Value) (vs : List Value) (h : cs.size = vs.length) : spliced cs 0 vs = vs.toArray := by
 unfold spliced
 rw [List.drop_of_length_le (by simp; omega)]
 simp
theorem storeVar_part (w : World) (g o : Nat) (t ty : TypeId) (cs : Array Value) (vs : List Value) (hg : w.heap[g]? = some (.cells cs t (0, 0))) (hi : (P.info? ty).map (·.size) = some vs.length)
 (hl : o + vs.length ≤ cs.size) (h1 : ∀ v ∈ vs, v.oneCell' = true) :
 (storeVar ty ⟨g, o, none⟩ (.agg vs.toArray)).run P w = .ok () (w.setRow g (spliced cs o vs)) := by
 have := run_storeCells_at (P := P) g o t vs 0 cs w hg (by simpa using hl) h1
 cases hq : P.info? ty with
 | none => simp [hq] at hi
 | some i =>
   have hs : vs.length = i.size := by simp [hq] at hi; omega
   simp only [Nat.add_zero] at this
   simp [storeVar, sizeOf, typeInfo, hq, Value.cells, hs, this, spliced]
theorem wp_load_part {o : Oper} {a : Act} {w : World} {K : Act → World → Prop} {Q : Exit → Act → World → Prop} (ty : TypeId) (x : Operand) (ho : o.op = .load ty x)
 (g off : Nat) (hx : a.eval x = .pointer (some ⟨g, off, none⟩)) {t : TypeId} {cs : Array Value} {fr : Nat × Nat} (d : TypeDesc) (vs : List Value) (hg : w.heap[g]? = some (.cells cs t fr))
 (hu : P.underlying ty = some d) (hd : (match d with | .struct _ | .array _ _ => true | _ => false) = true) (hi : (P.info? ty).map (·.size) = some vs.length) (hp : PartAt cs off vs)
 (h : K (a.put o.dst (.agg vs.toArray)) w) : o.wp P a w K Q := by
 unfold Oper.wp execOp
 simp only [ho, hx, Instr.loadAt, Instr.sureAddr, Sem.run_bind, Sem.run_pure, Result.andThen_ok, loadVar_part w g off t ty cs fr d vs hg hu hd hi hp]
 exact h
theorem wpList_load_part {ops : Array Oper} {rest : List Oper} {o : Oper} {a : Act} {w : World} {Q : Exit → Act → World → Prop} (hgd : o.guard = none) (ty : TypeId) (x : Operand) (ho : o.op = .load ty x)
 (g off : Nat) (hx : a.eval x = .pointer (some ⟨g, off, none⟩)) {t : TypeId} {cs : Array Value} {fr : Nat × Nat} (d : TypeDesc) (vs : List Value) (hg : w.heap[g]? = some (.cells cs t fr))
 (hu : P.underlying ty = some d) (hd : (match d with | .struct _ | .array _ _ => true | _ => false) = true) (hi : (P.info? ty).map (·.size) = some vs.length) (hp : PartAt cs off vs)
 (h : wpList P ops Q rest (a.put o.dst (.agg vs.toArray)) w) : wpList P ops Q (o :: rest) a w :=
 wpList_plain hgd fun _ hK => wp_load_part ty x ho g off hx d vs hg hu hd hi hp (hK _ _ h)
theorem wpList_store_part {ops : Array Oper} {rest : List Oper} {o : Oper} {a : Act} {w : World} {Q : Exit → Act → World → Prop} (hgd : o.guard = none) (ty : TypeId) (x y : Operand) (ho : o.op = .store ty x y)
 (g off : Nat) (hx : a.eval x = .pointer (some ⟨g, off, none⟩)) (vs : List Value) (hy : a.eval y = .agg vs.toArray) {t : TypeId} {cs : Array Value} (hg : w.heap[g]? = some (.cells cs t (0, 0)))
 (hi : (P.info? ty).map (·.size) = some vs.length) (hl : off + vs.length ≤ cs.size) (h1 : ∀ v ∈ vs, v.oneCell' = true)
 (h : wpList P ops Q rest (a.put o.dst undef) (w.setRow g (spliced cs off vs))) : wpList P ops Q (o :: rest) a w :=
 wpList_plain hgd fun _ hK => by
  unfold Oper.wp execOp
  simp only [ho, hx, hy, Instr.storeAt, Instr.sureAddr, Sem.run_bind, Sem.run_pure, Result.andThen_ok, storeVar_part w g off t ty cs vs hg hi hl h1]
  exact hK _ _ h
theorem results_cell_slot {fn : Func} {p q : Tmp} {ty : TypeId} (h : fn.results = #[.cell p ty, .tmp q]) (tmps : Array Value) (w : World) (g off : Nat) {t : TypeId} {cs : Array Value} {fr : Nat × Nat} (d : TypeDesc) (vs : List Value) (y : Value)
 (hp : tmps[p]? = some (.pointer (some ⟨g, off, none⟩))) (hq : tmps[q]? = some y) (hg : w.heap[g]? = some (.cells cs t fr))
 (hu : P.underlying ty = some d) (hd : (match d with | .struct _ | .array _ _ => true | _ => false) = true) (hi : (P.info? ty).map (·.size) = some vs.length) (hpt : PartAt cs off vs) :
 (results fn tmps).run P w = .ok (.tuple #[.agg vs.toArray, y]) w := by
 simp [results, h, hp, hq, asAddr, loadVar_part w g off t ty cs fr d vs hg hu hd hi hpt]
end
theorem row_set {w : World} {g : Nat} {old : Array Value} {t : TypeId} (cs : Array Value) (h : w.heap[g]? = some (.cells old t (0, 0))) : (w.setRow g cs).heap[g]? = some (.cells cs t (0, 0)) := setRow_heap w g old cs t (0, 0) h
end Go.Proofs.Ytggmllobcemhhaa.B
namespace Go.Proofs.Ytggmllobcemhhaa.B
set_option linter.unusedVariables false
set_option linter.unusedSimpArgs false
open Go.ChangeShapes Go.WideShapes Go.RowKit Go.Sort Go.MapKept
open Go.ChangeMaps (setBlock modify_eq_set set_perm)
structure Off (S : Nat → Prop) (w w' : World) : Prop where
 os : w'.os = w.os
 tape : w'.tape = w.tape
 output : w'.output = w.output
 size : w.heap.size ≤ w'.heap.size
 block : ∀ k, k < w.heap.size → ¬ S k → w'.heap[k]? = w.heap[k]?
theorem Off.refl (S : Nat → Prop) (w : World) : Off S w w := ⟨rfl, rfl, rfl, Nat.le_refl _, fun _ _ _ => rfl⟩
theorem Off.trans {S : Nat → Prop} {a b c : World} (h : Off S a b) (k : Off S b c) : Off S a c :=
 ⟨k.os.trans h.os, k.tape.trans h.tape, k.output.trans h.output, Nat.le_trans h.size k.size, fun i hi hs => (k.block i (Nat.lt_of_lt_of_le hi h.size) hs).trans (h.block i hi hs)⟩
theorem Off.mono {S T : Nat → Prop} {a b : World} (h : Off S a b) (hst : ∀ k, k < a.heap.size → S k → T k) : Off T a b :=
 ⟨h.os, h.tape, h.output, h.size, fun i hi hs => h.block i hi fun h1 => hs (hst i hi h1)⟩
theorem Off.next {S T : Nat → Prop} {a b c : World} (h : Off S a b) (k : Off T b c) (hst : ∀ i, i < a.heap.size → T i → S i) : Off S a c :=
 ⟨k.os.trans h.os, k.tape.trans h.tape, k.output.trans h.output, Nat.le_trans h.size k.size, fun i hi hs => (k.block i (Nat.lt_of_lt_of_le hi h.size) fun h1 => hs (hst i hi h1)).trans (h.block i hi hs)⟩
theorem Off.andThen {S T U : Nat → Prop} {a b c : World} (h : Off S a b) (k : Off T b c) (h1 : ∀ i, i < a.heap.size → S i → U i) (h2 : ∀ i, i < a.heap.size → T i → U i) : Off U a c := (h.mono h1).next k h2
theorem Off.ofBelow {S : Nat → Prop} {a b : World} (h : Below a.heap.size a b) : Off S a b := ⟨h.os, h.tape, h.output, h.size, fun i hi _ => h.block i hi⟩
theorem Off.ofGrown {S : Nat → Prop} {a b : World} {row : Option Nat} (h : a.grownBy b row) (hr : ∀ k, row = some k → S k) : Off S a b :=
 ⟨h.os, h.tape, h.output, h.size, fun i hi hs => h.block i hi fun e => hs (hr i e.symm)⟩
theorem Off.ofSetCell {S : Nat → Prop} (a : World) (p : Addr) (v : Value) (hp : S p.block) : Off S a (a.setCell p v) := by
 have h := (Below.refl p.block a).setCell (p := p) (Nat.le_refl _) v
 exact ⟨h.os, h.tape, h.output, h.size, fun k _ hs => Below.heap_setCell a p v k fun e => hs (by rw [e]; exact hp)⟩
theorem off_set (w : World) (p j : Nat) (v : Value) : Off (· = p) w (w.setCell ⟨p, j, none⟩ v) := Off.ofSetCell w ⟨p, j, none⟩ v rfl
theorem Off.below {S : Nat → Prop} {B : Nat} {a b : World} (h : Off S a b) (hB : ∀ k, k < B → ¬ S k) (hle : B ≤ a.heap.size) : Below B a b :=
 ⟨h.os, h.tape, h.output, h.size, fun i hi => h.block i (Nat.lt_of_lt_of_le hi hle) (hB i hi)⟩
theorem Off.toBelow {B : Nat} {w a b : World} (h : Below B w a) {X : Nat → Prop} (ho : Off X a b) (hx : ∀ k, k < B → ¬ X k) (hB : B ≤ w.heap.size) : Below B w b :=
 h.trans (ho.below hx (Nat.le_trans hB h.size))
theorem Off.cell {S : Nat → Prop} {a b : World} (h : Off S a b) {p : Addr} (hp : p.block < a.heap.size) (hs : ¬ S p.block) : b.cell? p = a.cell? p := by
 simp only [World.cell?, h.block p.block hp hs]
theorem Off.at {S : Nat → Prop} {a b : World} (h : Off S a b) {k : Nat} {o : Obj} (hk : a.heap[k]? = some o) (hs : ¬ S k) : b.heap[k]? = some o := by
 rw [h.block k (lt_of_block hk) hs]; exact hk
structure KeyE (P : Program) (k : TypeId) {κ : Type} (ek : κ → Value) (ok : κ → Prop) : Prop where
 keyed : Maps.Keyed P k
 reads : ∀ i, ok i → ∃ l, keyOf P k (ek i) = some l
 inj : ∀ i j, ek i = ek j → i = j
def mapP (w : World) {κ : Type} (ek : κ → Value) (ok : κ → Prop) (b : Nat) (M : List (κ × Value)) : Prop :=
 ∃ es clock, w.heap[b]? = some (.map es clock) ∧ Stamped es clock ∧ (es.toList.map fun e => (e.key, e.val)).Perm (M.map fun p => (ek p.1, p.2)) ∧ ∀ p ∈ M, ok p.1
section
variable {P : Program} {k : TypeId} {κ : Type} {ek : κ → Value} {ok : κ → Prop} {w : World} {b : Nat} {M : List (κ × Value)}
theorem mapP_made (w : World) (ek : κ → Value) (ok : κ → Prop) : mapP (w.alloc (.map #[] 0)) ek ok w.heap.size [] :=
 ⟨#[], 0, blk_new w _, stamped_empty 0, List.Perm.refl _, fun _ h => by cases h⟩
theorem mapP.lt (h : mapP w ek ok b M) : b < w.heap.size := by obtain ⟨_, _, hb, _⟩ := h; exact lt_of_block hb
theorem mapP.kept {w' : World} (h : mapP w ek ok b M) (hb : w'.heap[b]? = w.heap[b]?) : mapP w' ek ok b M := by
 obtain ⟨es, c, h1, h2⟩ := h; exact ⟨es, c, hb.trans h1, h2⟩
theorem mapP.off {S : Nat → Prop} {w' : World} (h : mapP w ek ok b M) (ho : Off S w w') (hs : ¬ S b) : mapP w' ek ok b M := h.kept (ho.block b h.lt hs)
theorem mapP.below {B : Nat} {w' : World} (h : mapP w ek ok b M) (ho : Below B w w') (hs : b < B) : mapP w' ek ok b M := h.kept (ho.block b hs)
theorem mapP.perm {M' : List (κ × Value)} (h : mapP w ek ok b M) (hp : M.Perm M') : mapP w ek ok b M' := by
 obtain ⟨es, c, h1, h2, h3, h4⟩ := h
 exact ⟨es, c, h1, h2, h3.trans (hp.map _), fun p hq => h4 p (hp.mem_iff.2 hq)⟩
theorem mapP.nodup (h : mapP w ek ok b M) : (M.map (·.1)).Nodup := by
 obtain ⟨es, c, h1, ⟨_, _, hn⟩, h3, h4⟩ := h
 have h5 := h3.map Prod.fst
 simp only [List.map_map, Function.comp_def] at h5
 have h6 : (M.map fun p => ek p.1).Nodup := (h5.nodup_iff).1 hn
 have h7 : ((M.map (·.1)).map ek).Nodup := by simpa [List.map_map, Function.comp_def] using h6
 exact (List.pairwise_map.1 h7).imp fun h e => h (by rw [e])
theorem es_reads (K : KeyE P k ek ok) {es : Array MapEntry} (h3 : (es.toList.map fun e => (e.key, e.val)).Perm (M.map fun p => (ek p.1, p.2))) (h4 : ∀ p ∈ M, ok p.1) : ∀ e ∈ es.toList, ∃ l, keyOf P k e.key = some l := by
 intro e he
 have : (e.key, e.val) ∈ M.map fun p => (ek p.1, p.2) := h3.mem_iff.1 (List.mem_map.2 ⟨e, he, rfl⟩)
 obtain ⟨p, hp, hq⟩ := List.mem_map.1 this
 obtain ⟨l, hl⟩ := K.reads p.1 (h4 p hp)
 exact ⟨l, by rw [← (Prod.mk.inj hq).1]; exact hl⟩
theorem mapP.hit (K : KeyE P k ek ok) {t e : TypeId} (ht : P.underlying t = some (.map k e)) (h : mapP w ek ok b M) {x : κ} {v : Value} (hx : (x, v) ∈ M) (c : Bool) :
 (Instr.lookup t (.map (some b)) (ek x) c).run P w = .ok (if c then .tuple #[v, .bool true] else v) w := by
 have hnd := h.nodup
 obtain ⟨es, clock, hb, hS, h3, h4⟩ := h
 obtain ⟨l, hl⟩ := K.reads x (h4 _ hx)
 have hmem : ∃ e0 ∈ es.toList, e0.key = ek x ∧ e0.val = v := by
  have : (ek x, v) ∈ es.toList.map fun e => (e.key, e.val) := h3.mem_iff.2 (List.mem_map.2 ⟨_, hx, rfl⟩)
  obtain ⟨e0, he, hq⟩ := List.mem_map.1 this
  exact ⟨e0, he, (Prod.mk.inj hq).1, (Prod.mk.inj hq).2⟩
 obtain ⟨e0, he0, hk0, hv0⟩ := hmem
 rcases K.keyed.find w hl es.toList (es_reads K h3 h4) with ⟨h1, h2⟩ | ⟨j, e1, h1, h2, hk1⟩
 · exact absurd hk0 (h2 e0 he0)
 · have : e1 = e0 := by
    have hn := hS.2.2
    have he1 : e1 ∈ es.toList := List.mem_of_getElem? h2
    obtain ⟨i, hi, rfl⟩ := List.getElem_of_mem he0
    obtain ⟨i', hi', rfl⟩ := List.getElem_of_mem he1
    have hij : i' = i := by
     have h5 : (es.toList.map (·.key))[i']'(by simpa using hi') = (es.toList.map (·.key))[i]'(by simpa using hi) := by
      rw [List.getElem_map, List.getElem_map, hk0, hk1]
     exact (List.getElem_inj hn).1 h5
    subst hij; rfl
   subst this
   simp [Instr.lookup, run_underlying ht, MapKept.run_getObj_map hb, K.keyed.check w _ hl, h1, hv0, Result.andThen]
theorem mapP.miss (K : KeyE P k ek ok) {t e : TypeId} (ht : P.underlying t = some (.map k e)) (h : mapP w ek ok b M) {x : κ} {z : Value} (hx : ∀ p ∈ M, p.1 ≠ x) (hok : ok x) (hz : (zeroValue e).run P w = .ok z w) (c : Bool) :
 (Instr.lookup t (.map (some b)) (ek x) c).run P w = .ok (if c then .tuple #[z, .bool false] else z) w := by
 obtain ⟨es, clock, hb, hS, h3, h4⟩ := h
 obtain ⟨l, hl⟩ := K.reads x hok
 rcases K.keyed.find w hl es.toList (es_reads K h3 h4) with ⟨h1, h2⟩ | ⟨j, e1, h1, h2, hk1⟩
 · simp [Instr.lookup, run_underlying ht, MapKept.run_getObj_map hb, K.keyed.check w _ hl, h1, hz, Result.andThen]
 · have he1 : e1 ∈ es.toList := List.mem_of_getElem? h2
   have : (e1.key, e1.val) ∈ M.map fun p => (ek p.1, p.2) := h3.mem_iff.1 (List.mem_map.2 ⟨e1, he1, rfl⟩)
   obtain ⟨p, hp, hq⟩ := List.mem_map.1 this
   exact absurd (K.inj _ _ ((Prod.mk.inj hq).1.trans hk1)) (hx p hp)
theorem split_hit [DecidableEq κ] {x : κ} {v : Value} : ∀ {M : List (κ × Value)}, (M.map (·.1)).Nodup → (x, v) ∈ M → M.Perm ((x, v) :: M.filter fun p => decide (p.1 ≠ x))
 | [], _, h => by cases h
 | q :: M, hn, h => by
   simp only [List.map_cons, List.nodup_cons] at hn
   rcases List.mem_cons.1 h with rfl | h'
   · have : M.filter (fun p => decide (p.1 ≠ x)) = M := List.filter_eq_self.2 fun p hp => by
      have : p.1 ≠ x := fun e => hn.1 (by rw [← e]; exact List.mem_map.2 ⟨p, hp, rfl⟩)
      simpa using this
     rw [List.filter_cons, if_neg (by simp), this]
   · have hq : q.1 ≠ x := fun e => hn.1 (by rw [e]; exact List.mem_map.2 ⟨_, h', rfl⟩)
     rw [List.filter_cons, if_pos (by simpa using hq)]
     exact ((split_hit hn.2 h').cons q).trans (List.Perm.swap _ _ _)
theorem off_setBlock {S : Nat → Prop} (w : World) (b : Nat) (o : Obj) (hs : S b) : Off S w (setBlock w b o) :=
 ⟨rfl, rfl, rfl, by simp [setBlock], fun k _ h => by
  have : k ≠ b := fun e => h (by rw [e]; exact hs)
  simp [setBlock, Array.getElem?_setIfInBounds, Ne.symm this]⟩
theorem setBlock_self (w : World) (b : Nat) (o : Obj) (hb : b < w.heap.size) : (setBlock w b o).heap[b]? = some o := by
 simp [setBlock, Array.getElem?_setIfInBounds, hb]
def putM [DecidableEq κ] (x : κ) (v : Value) (M : List (κ × Value)) : List (κ × Value) := (x, v) :: M.filter fun p => decide (p.1 ≠ x)
theorem mapP.update [DecidableEq κ] (K : KeyE P k ek ok) {t e : TypeId} (ht : P.underlying t = some (.map k e)) (h : mapP w ek ok b M) (x : κ) (v : Value) (hok : ok x) :
 ∃ es' clock', (Instr.mapUpdate t (.map (some b)) (ek x) v).run P w = .ok () (setBlock w b (.map es' clock')) ∧ mapP (setBlock w b (.map es' clock')) ek ok b (putM x v M) := by
 have hlt := h.lt
 have hnd := h.nodup
 obtain ⟨es, clock, hb, hS, h3, h4⟩ := h
 obtain ⟨l, hl⟩ := K.reads x hok
 have hok' : ∀ p ∈ putM x v M, ok p.1 := fun p hp => by
  rcases List.mem_cons.1 hp with rfl | hp
  · exact hok
  · exact h4 p (List.mem_filter.1 hp).1
 rcases K.keyed.find w hl es.toList (es_reads K h3 h4) with ⟨h1, h2⟩ | ⟨j, e0, h1, h2, hk0⟩
 · refine ⟨es.push ⟨ek x, v, clock⟩, clock + 1, ?_, es.push ⟨ek x, v, clock⟩, clock + 1, setBlock_self w b _ hlt, stamped_push hS h2, ?_, hok'⟩
   · simp [Instr.mapUpdate, run_underlying ht, MapKept.run_getObj_map hb, K.keyed.check w false hl, h1, MapKept.run_setObj_map _ hb, Result.andThen, setBlock]
   · have hno : M.filter (fun p => decide (p.1 ≠ x)) = M := List.filter_eq_self.2 fun p hp => by
      have : p.1 ≠ x := fun e1 => by
       have : (ek p.1, p.2) ∈ es.toList.map fun e => (e.key, e.val) := h3.mem_iff.2 (List.mem_map.2 ⟨p, hp, rfl⟩)
       obtain ⟨e2, he2, hq⟩ := List.mem_map.1 this
       exact h2 e2 he2 (by rw [← e1]; exact (Prod.mk.inj hq).1)
      simpa using this
     unfold putM
     rw [hno, Array.toList_push, List.map_append, List.map_singleton]
     exact (List.perm_append_singleton _ _).trans (h3.cons _)
 · have hj : es[j]? = some e0 := by simpa using h2
   have hlist : (es.modify j (fun e' => { e' with key := ek x, val := v })).toList = es.toList.set j { e0 with key := ek x, val := v } := by rw [Array.toList_modify, modify_eq_set _ _ _ _ h2]
   have hkeyf : ∀ e', es[j]? = some e' → ({ e' with key := ek x, val := v } : MapEntry).key = e'.key := fun e' he' => by rw [hj] at he'; cases he'; exact hk0.symm
   refine ⟨es.modify j (fun e' => { e' with key := ek x, val := v }), clock, ?_, es.modify j (fun e' => { e' with key := ek x, val := v }), clock, setBlock_self w b _ hlt, stamped_modify hS _ _ (fun _ _ => rfl) (fun e' _ he' => hkeyf e' he'), ?_, hok'⟩
   · simp [Instr.mapUpdate, run_underlying ht, MapKept.run_getObj_map hb, K.keyed.check w false hl, h1, hj, hk0, K.keyed.stays w hl, MapKept.run_setObj_map _ hb, Result.andThen, setBlock]
   · rw [hlist, List.map_set]
     have hjl : j < es.toList.length := (List.getElem?_eq_some_iff.1 h2).1
     have hm : (ek x, e0.val) ∈ M.map fun p => (ek p.1, p.2) := h3.mem_iff.1 (List.mem_map.2 ⟨e0, List.mem_of_getElem? h2, by rw [hk0]⟩)
     obtain ⟨q, hq, hq2⟩ := List.mem_map.1 hm
     have hqx : q = (x, e0.val) := Prod.ext (K.inj _ _ (Prod.mk.inj hq2).1) (Prod.mk.inj hq2).2
     subst hqx
     have hp1 := split_hit hnd hq
     have hp2 : (es.toList.map fun e => (e.key, e.val)).Perm ((ek x, e0.val) :: (es.toList.map fun e => (e.key, e.val)).eraseIdx j) := by
      have := set_perm (es.toList.map fun e => (e.key, e.val)) j (by simpa using hjl) ((es.toList.map fun e => (e.key, e.val))[j]'(by simpa using hjl))
      rw [List.set_getElem_self] at this
      have he : (es.toList.map fun e => (e.key, e.val))[j]'(by simpa using hjl) = (ek x, e0.val) := by
       have := (List.getElem?_eq_some_iff.1 h2).2
       rw [List.getElem_map, this, hk0]
      rw [he] at this
      exact this
     have hp3 := (hp2.symm.trans (h3.trans (hp1.map _)))
     simp only [List.map_cons] at hp3
     have hp4 := (List.perm_cons _).1 hp3
     refine (set_perm _ _ (by simpa using hjl) _).trans ?_
     simp only [putM, List.map_cons]
     exact hp4.cons _
end
section
variable {P : Program} {k e : TypeId} {κ : Type} {ek : κ → Value} {ok : κ → Prop} {w : World} {b : Nat} {M : List (κ × Value)} {ops : Array Oper} {rest : List Oper} {o : Oper} {a : Act} {Q : Exit → Act → World → Prop}
theorem wpList_hit_ok (K : KeyE P k ek ok) (hg : o.guard = none) (m x : Operand) (t : TypeId) (hop : o.op = Op.lookup t m x true) (ht : P.underlying t = some (.map k e)) (hm : a.eval m = .map (some b)) (hown : mapP w ek ok b M)
 (key : κ) (v : Value) (hx : a.eval x = ek key) (hin : (key, v) ∈ M) (hK : wpList P ops Q rest (a.put o.dst (.tuple #[v, .bool true])) w) : wpList P ops Q (o :: rest) a w := by
 refine wpList_plain hg fun K' hK' => ?_
 have hrun := hown.hit K ht hin true
 unfold Oper.wp
 simp [execOp, hop, hm, hx, hrun, Result.andThen]
 exact hK' _ _ hK
theorem wpList_miss_ok (K : KeyE P k ek ok) (hg : o.guard = none) (m x : Operand) (t : TypeId) (hop : o.op = Op.lookup t m x true) (ht : P.underlying t = some (.map k e)) (hm : a.eval m = .map (some b)) (hown : mapP w ek ok b M)
 (key : κ) (z : Value) (hx : a.eval x = ek key) (hin : ∀ p ∈ M, p.1 ≠ key) (hok : ok key) (hz : (zeroValue e).run P w = .ok z w) (hK : wpList P ops Q rest (a.put o.dst (.tuple #[z, .bool false])) w) : wpList P ops Q (o :: rest) a w := by
 refine wpList_plain hg fun K' hK' => ?_
 have hrun := hown.miss K ht hin hok hz true
 unfold Oper.wp
 simp [execOp, hop, hm, hx, hrun, Result.andThen]
 exact hK' _ _ hK
theorem wpList_put [DecidableEq κ] (K : KeyE P k ek ok) (hg : o.guard = none) (m x v : Operand) (t : TypeId) (hop : o.op = Op.mapUpdate t m x v) (ht : P.underlying t = some (.map k e)) (hm : a.eval m = .map (some b)) (hown : mapP w ek ok b M)
 (key : κ) (val : Value) (hx : a.eval x = ek key) (hv : a.eval v = val) (hok : ok key) (hK : ∀ w', mapP w' ek ok b (putM key val M) → Off (· = b) w w' → wpList P ops Q rest (a.put o.dst undef) w') : wpList P ops Q (o :: rest) a w := by
 refine wpList_plain hg fun K' hK' => ?_
 obtain ⟨es', clock', hrun, hmap⟩ := hown.update K ht key val hok
 unfold Oper.wp
 simp [execOp, hop, hm, hx, hv, hrun, Result.andThen]
 exact hK' _ _ (hK _ hmap (off_setBlock w b _ rfl))
end
end Go.Proofs.Ytggmllobcemhhaa.B
