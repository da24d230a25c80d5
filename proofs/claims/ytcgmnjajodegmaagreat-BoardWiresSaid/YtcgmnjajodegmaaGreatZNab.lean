/- Several texts in one: Maps by their lists of keys and elements, in whatever order (any program, any key type that the reader reads as a key): made, asked, written; worlds in which only certain blocks have turned. Structs of one number as keys of maps. Rows and parts of rows, by value: a whole array (or struct) read out of a block that is known whole, and stored into a part of one: one step, whatever its size. -/
import Derived.Test.YtcgmnjajodegmaaGreatZNaa
import Derived.Maps.Own
import Derived.Maps.OwnOps
import Derived.WideKeyEntry
import Derived.DeepKeys4
import Derived.Laws.Rows
import Derived.Laws.CopyRow
import Derived.Deep.Quiet
import Derived.Lib.QuietBelow
namespace Go.Proofs.YtcgmnjajodegmaaGreat.B
set_option linter.unusedVariables false
set_option linter.unusedSimpArgs false
open Go.ChangeShapes Go.WideShapes Go.RowKit Go.Sort Go.MapKept
open Go.ChangeMaps (setBlock modify_eq_set set_perm)
/-- Of the blocks that were there only those of S may have turned. -/
structure Off (S : Nat → Prop) (w w' : World) : Prop where
  os : w'.os = w.os
  tape : w'.tape = w.tape
  output : w'.output = w.output
  size : w.heap.size ≤ w'.heap.size
  block : ∀ k, k < w.heap.size → ¬ S k → w'.heap[k]? = w.heap[k]?
theorem Off.refl (S : Nat → Prop) (w : World) : Off S w w := ⟨rfl, rfl, rfl, Nat.le_refl _, fun _ _ _ => rfl⟩
theorem Off.trans {S : Nat → Prop} {a b c : World} (h : Off S a b) (k : Off S b c) : Off S a c :=
  ⟨k.os.trans h.os, k.tape.trans h.tape, k.output.trans h.output, Nat.le_trans h.size k.size, fun i hi hs => (k.block i (Nat.lt_of_lt_of_le hi h.size) hs).trans (h.block i hi hs)⟩
theorem off_drew {X : Nat → Prop} (w : World) : Off X w w.drew := ⟨rfl, rfl, rfl, Nat.le_refl _, fun _ _ _ => rfl⟩
theorem Off.mono {S T : Nat → Prop} {a b : World} (h : Off S a b) (hst : ∀ k, k < a.heap.size → S k → T k) : Off T a b :=
  ⟨h.os, h.tape, h.output, h.size, fun i hi hs => h.block i hi fun h1 => hs (hst i hi h1)⟩
/-- A second step may turn what is new as well. -/
theorem Off.next {S T : Nat → Prop} {a b c : World} (h : Off S a b) (k : Off T b c) (hst : ∀ i, i < a.heap.size → T i → S i) : Off S a c :=
  ⟨k.os.trans h.os, k.tape.trans h.tape, k.output.trans h.output, Nat.le_trans h.size k.size, fun i hi hs => (k.block i (Nat.lt_of_lt_of_le hi h.size) fun h1 => hs (hst i hi h1)).trans (h.block i hi hs)⟩
theorem Off.andThen {S T U : Nat → Prop} {a b c : World} (h : Off S a b) (k : Off T b c) (h1 : ∀ i, i < a.heap.size → S i → U i) (h2 : ∀ i, i < a.heap.size → T i → U i) : Off U a c := (h.mono h1).next k h2
/-- What has turned and stands again as it was has not turned. -/
theorem Off.restored {S T : Nat → Prop} {a b : World} (h : Off S a b) (hr : ∀ k, k < a.heap.size → S k → ¬ T k → b.heap[k]? = a.heap[k]?) : Off T a b :=
  ⟨h.os, h.tape, h.output, h.size, fun k hk hT => by
    by_cases hS : S k
    · exact hr k hk hS hT
    · exact h.block k hk hS⟩
theorem Off.ofBelow {S : Nat → Prop} {a b : World} (h : Below a.heap.size a b) : Off S a b := ⟨h.os, h.tape, h.output, h.size, fun i hi _ => h.block i hi⟩
theorem Off.ofGrown {S : Nat → Prop} {a b : World} {row : Option Nat} (h : a.grownBy b row) (hr : ∀ k, row = some k → S k) : Off S a b :=
  ⟨h.os, h.tape, h.output, h.size, fun i hi hs => h.block i hi fun e => hs (hr i e.symm)⟩
theorem Off.ofSetCell {S : Nat → Prop} (a : World) (p : Addr) (v : Value) (hp : S p.block) : Off S a (a.setCell p v) := by
  have h := (Below.refl p.block a).setCell (p := p) (Nat.le_refl _) v
  exact ⟨h.os, h.tape, h.output, h.size, fun k _ hs => Below.heap_setCell a p v k fun e => hs (by rw [e]; exact hp)⟩
theorem off_set (w : World) (p j : Nat) (v : Value) : Off (· = p) w (w.setCell ⟨p, j, none⟩ v) := Off.ofSetCell w ⟨p, j, none⟩ v rfl
theorem Off.ofAlloc {S : Nat → Prop} (a : World) (o : Obj) : Off S a (a.alloc o) := Off.ofBelow ((Below.refl _ _).alloc (Nat.le_refl _) o)
theorem Off.below {S : Nat → Prop} {B : Nat} {a b : World} (h : Off S a b) (hB : ∀ k, k < B → ¬ S k) (hle : B ≤ a.heap.size) : Below B a b :=
  ⟨h.os, h.tape, h.output, h.size, fun i hi => h.block i (Nat.lt_of_lt_of_le hi hle) (hB i hi)⟩
theorem Off.toBelow {B : Nat} {w a b : World} (h : Below B w a) {X : Nat → Prop} (ho : Off X a b) (hx : ∀ k, k < B → ¬ X k) (hB : B ≤ w.heap.size) : Below B w b :=
  h.trans (ho.below hx (Nat.le_trans hB h.size))
theorem off_below {B p : Nat} {w a b : World} (h : Below B w a) (ho : Off (· = p) a b) (hp : B ≤ p) (hB : B ≤ w.heap.size) : Below B w b := Off.toBelow h ho (fun k hk e => by omega) hB
theorem Off.cell {S : Nat → Prop} {a b : World} (h : Off S a b) {p : Addr} (hp : p.block < a.heap.size) (hs : ¬ S p.block) : b.cell? p = a.cell? p := by
  simp only [World.cell?, h.block p.block hp hs]
theorem Off.at {S : Nat → Prop} {a b : World} (h : Off S a b) {k : Nat} {o : Obj} (hk : a.heap[k]? = some o) (hs : ¬ S k) : b.heap[k]? = some o := by
  rw [h.block k (lt_of_block hk) hs]; exact hk
/-- Keys of a kind: they read as keys, and differ as values where they differ. -/
structure KeyE (P : Program) (k : TypeId) {κ : Type} (ek : κ → Value) (ok : κ → Prop) : Prop where
  keyed : Maps.Keyed P k
  reads : ∀ i, ok i → ∃ l, keyOf P k (ek i) = some l
  inj : ∀ i j, ek i = ek j → i = j
/-- Block b is a map that holds just the list's keys and elements, in whatever order. -/
def mapP (w : World) {κ : Type} (ek : κ → Value) (ok : κ → Prop) (b : Nat) (M : List (κ × Value)) : Prop :=
  ∃ es clock, w.heap[b]? = some (.map es clock) ∧ Stamped es clock ∧ (es.toList.map fun e => (e.key, e.val)).Perm (M.map fun p => (ek p.1, p.2)) ∧ ∀ p ∈ M, ok p.1
section
variable {P : Program} {k : TypeId} {κ : Type} {ek : κ → Value} {ok : κ → Prop} {w : World} {b : Nat} {M : List (κ × Value)}
theorem mapP_made (w : World) (ek : κ → Value) (ok : κ → Prop) : mapP (w.alloc (.map #[] 0)) ek ok w.heap.size [] :=
  ⟨#[], 0, blk_new w _, stamped_empty 0, List.Perm.refl _, fun _ h => by cases h⟩
theorem mapP.lt (h : mapP w ek ok b M) : b < w.heap.size := by obtain ⟨_, _, hb, _⟩ := h; exact lt_of_block hb
theorem mapP.kept {w' : World} (h : mapP w ek ok b M) (hb : w'.heap[b]? = w.heap[b]?) : mapP w' ek ok b M := by
  obtain ⟨es, c, h1, h2⟩ := h; exact ⟨es, c, hb.trans h1, h2⟩
theorem mapP.off {S : Nat → Prop} {w' : World} (h : mapP w ek ok b M) (ho : Off S w w') (hs : ¬ S b) : mapP w' ek ok b M := h.kept (ho.block b h.lt hs)
theorem mapP.below {B : Nat} {w' : World} (h : mapP w ek ok b M) (ho : Below B w w') (hs : b < B) : mapP w' ek ok b M := h.kept (ho.block b hs)
theorem mapP.perm {M' : List (κ × Value)} (h : mapP w ek ok b M) (hp : M.Perm M') : mapP w ek ok b M' := by
  obtain ⟨es, c, h1, h2, h3, h4⟩ := h
  exact ⟨es, c, h1, h2, h3.trans (hp.map _), fun p hq => h4 p (hp.mem_iff.2 hq)⟩
theorem mapP.oks (h : mapP w ek ok b M) : ∀ p ∈ M, ok p.1 := by obtain ⟨_, _, _, _, _, h4⟩ := h; exact h4
theorem mapP.nodup (h : mapP w ek ok b M) : (M.map (·.1)).Nodup := by
  obtain ⟨es, c, h1, ⟨_, _, hn⟩, h3, h4⟩ := h
  have h5 := h3.map Prod.fst
  simp only [List.map_map, Function.comp_def] at h5
  have h6 : (M.map fun p => ek p.1).Nodup := (h5.nodup_iff).1 hn
  have h7 : ((M.map (·.1)).map ek).Nodup := by simpa [List.map_map, Function.comp_def] using h6
  exact (List.pairwise_map.1 h7).imp fun h e => h (by rw [e])
theorem es_reads (K : KeyE P k ek ok) {es : Array MapEntry} (h3 : (es.toList.map fun e => (e.key, e.val)).Perm (M.map fun p => (ek p.1, p.2))) (h4 : ∀ p ∈ M, ok p.1) : ∀ e ∈ es.toList, ∃ l, keyOf P k e.key = some l := by
  intro e he
  have : (e.key, e.val) ∈ M.map fun p => (ek p.1, p.2) := h3.mem_iff.1 (List.mem_map.2 ⟨e, he, rfl⟩)
  obtain ⟨p, hp, hq⟩ := List.mem_map.1 this
  obtain ⟨l, hl⟩ := K.reads p.1 (h4 p hp)
  exact ⟨l, by rw [← (Prod.mk.inj hq).1]; exact hl⟩
/-- 'm[k]' where the key is there. -/
theorem mapP.hit (K : KeyE P k ek ok) {t e : TypeId} (ht : P.underlying t = some (.map k e)) (h : mapP w ek ok b M) {x : κ} {v : Value} (hx : (x, v) ∈ M) (c : Bool) :
    (Instr.lookup t (.map (some b)) (ek x) c).run P w = .ok (if c then .tuple #[v, .bool true] else v) w := by
  have hnd := h.nodup
  obtain ⟨es, clock, hb, hS, h3, h4⟩ := h
  obtain ⟨l, hl⟩ := K.reads x (h4 _ hx)
  have hmem : ∃ e0 ∈ es.toList, e0.key = ek x ∧ e0.val = v := by
    have : (ek x, v) ∈ es.toList.map fun e => (e.key, e.val) := h3.mem_iff.2 (List.mem_map.2 ⟨_, hx, rfl⟩)
    obtain ⟨e0, he, hq⟩ := List.mem_map.1 this
    exact ⟨e0, he, (Prod.mk.inj hq).1, (Prod.mk.inj hq).2⟩
  obtain ⟨e0, he0, hk0, hv0⟩ := hmem
  rcases K.keyed.find w hl es.toList (es_reads K h3 h4) with ⟨h1, h2⟩ | ⟨j, e1, h1, h2, hk1⟩
  · exact absurd hk0 (h2 e0 he0)
  · have : e1 = e0 := by
      have hn := hS.2.2
      have he1 : e1 ∈ es.toList := List.mem_of_getElem? h2
      obtain ⟨i, hi, rfl⟩ := List.getElem_of_mem he0
      obtain ⟨i', hi', rfl⟩ := List.getElem_of_mem he1
      have hij : i' = i := by
        have h5 : (es.toList.map (·.key))[i']'(by simpa using hi') = (es.toList.map (·.key))[i]'(by simpa using hi) := by
          rw [List.getElem_map, List.getElem_map, hk0, hk1]
        exact (List.getElem_inj hn).1 h5
      subst hij; rfl
    subst this
    simp [Instr.lookup, run_underlying ht, MapKept.run_getObj_map hb, K.keyed.check w _ hl, h1, hv0, Result.andThen]
/-- .. and where it isn't. -/
theorem mapP.miss (K : KeyE P k ek ok) {t e : TypeId} (ht : P.underlying t = some (.map k e)) (h : mapP w ek ok b M) {x : κ} {z : Value} (hx : ∀ p ∈ M, p.1 ≠ x) (hok : ok x) (hz : (zeroValue e).run P w = .ok z w) (c : Bool) :
    (Instr.lookup t (.map (some b)) (ek x) c).run P w = .ok (if c then .tuple #[z, .bool false] else z) w := by
  obtain ⟨es, clock, hb, hS, h3, h4⟩ := h
  obtain ⟨l, hl⟩ := K.reads x hok
  rcases K.keyed.find w hl es.toList (es_reads K h3 h4) with ⟨h1, h2⟩ | ⟨j, e1, h1, h2, hk1⟩
  · simp [Instr.lookup, run_underlying ht, MapKept.run_getObj_map hb, K.keyed.check w _ hl, h1, hz, Result.andThen]
  · have he1 : e1 ∈ es.toList := List.mem_of_getElem? h2
    have : (e1.key, e1.val) ∈ M.map fun p => (ek p.1, p.2) := h3.mem_iff.1 (List.mem_map.2 ⟨e1, he1, rfl⟩)
    obtain ⟨p, hp, hq⟩ := List.mem_map.1 this
    exact absurd (K.inj _ _ ((Prod.mk.inj hq).1.trans hk1)) (hx p hp)
theorem split_hit [DecidableEq κ] {x : κ} {v : Value} : ∀ {M : List (κ × Value)}, (M.map (·.1)).Nodup → (x, v) ∈ M → M.Perm ((x, v) :: M.filter fun p => decide (p.1 ≠ x))
  | [], _, h => by cases h
  | q :: M, hn, h => by
    simp only [List.map_cons, List.nodup_cons] at hn
    rcases List.mem_cons.1 h with rfl | h'
    · have : M.filter (fun p => decide (p.1 ≠ x)) = M := List.filter_eq_self.2 fun p hp => by
        have : p.1 ≠ x := fun e => hn.1 (by rw [← e]; exact List.mem_map.2 ⟨p, hp, rfl⟩)
        simpa using this
      rw [List.filter_cons, if_neg (by simp), this]
    · have hq : q.1 ≠ x := fun e => hn.1 (by rw [e]; exact List.mem_map.2 ⟨_, h', rfl⟩)
      rw [List.filter_cons, if_pos (by simpa using hq)]
      exact ((split_hit hn.2 h').cons q).trans (List.Perm.swap _ _ _)
theorem off_setBlock {S : Nat → Prop} (w : World) (b : Nat) (o : Obj) (hs : S b) : Off S w (setBlock w b o) :=
  ⟨rfl, rfl, rfl, by simp [setBlock], fun k _ h => by
    have : k ≠ b := fun e => h (by rw [e]; exact hs)
    simp [setBlock, Array.getElem?_setIfInBounds, Ne.symm this]⟩
theorem setBlock_self (w : World) (b : Nat) (o : Obj) (hb : b < w.heap.size) : (setBlock w b o).heap[b]? = some o := by
  simp [setBlock, Array.getElem?_setIfInBounds, hb]
/-- The map with an element at a key. -/
def putM [DecidableEq κ] (x : κ) (v : Value) (M : List (κ × Value)) : List (κ × Value) := (x, v) :: M.filter fun p => decide (p.1 ≠ x)
/-- 'm[k] = v'. -/
theorem mapP.update [DecidableEq κ] (K : KeyE P k ek ok) {t e : TypeId} (ht : P.underlying t = some (.map k e)) (h : mapP w ek ok b M) (x : κ) (v : Value) (hok : ok x) :
    ∃ es' clock', (Instr.mapUpdate t (.map (some b)) (ek x) v).run P w = .ok () (setBlock w b (.map es' clock')) ∧ mapP (setBlock w b (.map es' clock')) ek ok b (putM x v M) := by
  have hlt := h.lt
  have hnd := h.nodup
  obtain ⟨es, clock, hb, hS, h3, h4⟩ := h
  obtain ⟨l, hl⟩ := K.reads x hok
  have hok' : ∀ p ∈ putM x v M, ok p.1 := fun p hp => by
    rcases List.mem_cons.1 hp with rfl | hp
    · exact hok
    · exact h4 p (List.mem_filter.1 hp).1
  rcases K.keyed.find w hl es.toList (es_reads K h3 h4) with ⟨h1, h2⟩ | ⟨j, e0, h1, h2, hk0⟩
  · refine ⟨es.push ⟨ek x, v, clock⟩, clock + 1, ?_, es.push ⟨ek x, v, clock⟩, clock + 1, setBlock_self w b _ hlt, stamped_push hS h2, ?_, hok'⟩
    · simp [Instr.mapUpdate, run_underlying ht, MapKept.run_getObj_map hb, K.keyed.check w false hl, h1, MapKept.run_setObj_map _ hb, Result.andThen, setBlock]
    · have hno : M.filter (fun p => decide (p.1 ≠ x)) = M := List.filter_eq_self.2 fun p hp => by
        have : p.1 ≠ x := fun e1 => by
          have : (ek p.1, p.2) ∈ es.toList.map fun e => (e.key, e.val) := h3.mem_iff.2 (List.mem_map.2 ⟨p, hp, rfl⟩)
          obtain ⟨e2, he2, hq⟩ := List.mem_map.1 this
          exact h2 e2 he2 (by rw [← e1]; exact (Prod.mk.inj hq).1)
        simpa using this
      unfold putM
      rw [hno, Array.toList_push, List.map_append, List.map_singleton]
      exact (List.perm_append_singleton _ _).trans (h3.cons _)
  · have hj : es[j]? = some e0 := by simpa using h2
    have hlist : (es.modify j (fun e' => { e' with key := ek x, val := v })).toList = es.toList.set j { e0 with key := ek x, val := v } := by rw [Array.toList_modify, modify_eq_set _ _ _ _ h2]
    have hkeyf : ∀ e', es[j]? = some e' → ({ e' with key := ek x, val := v } : MapEntry).key = e'.key := fun e' he' => by rw [hj] at he'; cases he'; exact hk0.symm
    refine ⟨es.modify j (fun e' => { e' with key := ek x, val := v }), clock, ?_, es.modify j (fun e' => { e' with key := ek x, val := v }), clock, setBlock_self w b _ hlt, stamped_modify hS _ _ (fun _ _ => rfl) (fun e' _ he' => hkeyf e' he'), ?_, hok'⟩
    · simp [Instr.mapUpdate, run_underlying ht, MapKept.run_getObj_map hb, K.keyed.check w false hl, h1, hj, hk0, K.keyed.stays w hl, MapKept.run_setObj_map _ hb, Result.andThen, setBlock]
    · rw [hlist, List.map_set]
      have hjl : j < es.toList.length := (List.getElem?_eq_some_iff.1 h2).1
      have hm : (ek x, e0.val) ∈ M.map fun p => (ek p.1, p.2) := h3.mem_iff.1 (List.mem_map.2 ⟨e0, List.mem_of_getElem? h2, by rw [hk0]⟩)
      obtain ⟨q, hq, hq2⟩ := List.mem_map.1 hm
      have hqx : q = (x, e0.val) := Prod.ext (K.inj _ _ (Prod.mk.inj hq2).1) (Prod.mk.inj hq2).2
      subst hqx
      have hp1 := split_hit hnd hq
      have hp2 : (es.toList.map fun e => (e.key, e.val)).Perm ((ek x, e0.val) :: (es.toList.map fun e => (e.key, e.val)).eraseIdx j) := by
        have := set_perm (es.toList.map fun e => (e.key, e.val)) j (by simpa using hjl) ((es.toList.map fun e => (e.key, e.val))[j]'(by simpa using hjl))
        rw [List.set_getElem_self] at this
        have he : (es.toList.map fun e => (e.key, e.val))[j]'(by simpa using hjl) = (ek x, e0.val) := by
          have := (List.getElem?_eq_some_iff.1 h2).2
          rw [List.getElem_map, this, hk0]
        rw [he] at this
        exact this
      have hp3 := (hp2.symm.trans (h3.trans (hp1.map _)))
      simp only [List.map_cons] at hp3
      have hp4 := (List.perm_cons _).1 hp3
      refine (set_perm _ _ (by simpa using hjl) _).trans ?_
      simp only [putM, List.map_cons]
      exact hp4.cons _
end
/-! At the operation, for the walk. -/
section
variable {P : Program} {k e : TypeId} {κ : Type} {ek : κ → Value} {ok : κ → Prop} {w : World} {b : Nat} {M : List (κ × Value)} {ops : Array Oper} {rest : List Oper} {o : Oper} {a : Act} {Q : Exit → Act → World → Prop}
theorem wpList_hit (K : KeyE P k ek ok) (hg : o.guard = none) (m x : Operand) (t : TypeId) (hop : o.op = Op.lookup t m x false) (ht : P.underlying t = some (.map k e)) (hm : a.eval m = .map (some b)) (hown : mapP w ek ok b M)
    (key : κ) (v : Value) (hx : a.eval x = ek key) (hin : (key, v) ∈ M) (hK : wpList P ops Q rest (a.put o.dst v) w) : wpList P ops Q (o :: rest) a w := by
  refine wpList_plain hg fun K' hK' => ?_
  have hrun := hown.hit K ht hin false
  unfold Oper.wp
  simp [execOp, hop, hm, hx, hrun, Result.andThen]
  exact hK' _ _ hK
theorem wpList_hit_ok (K : KeyE P k ek ok) (hg : o.guard = none) (m x : Operand) (t : TypeId) (hop : o.op = Op.lookup t m x true) (ht : P.underlying t = some (.map k e)) (hm : a.eval m = .map (some b)) (hown : mapP w ek ok b M)
    (key : κ) (v : Value) (hx : a.eval x = ek key) (hin : (key, v) ∈ M) (hK : wpList P ops Q rest (a.put o.dst (.tuple #[v, .bool true])) w) : wpList P ops Q (o :: rest) a w := by
  refine wpList_plain hg fun K' hK' => ?_
  have hrun := hown.hit K ht hin true
  unfold Oper.wp
  simp [execOp, hop, hm, hx, hrun, Result.andThen]
  exact hK' _ _ hK
theorem wpList_miss (K : KeyE P k ek ok) (hg : o.guard = none) (m x : Operand) (t : TypeId) (hop : o.op = Op.lookup t m x false) (ht : P.underlying t = some (.map k e)) (hm : a.eval m = .map (some b)) (hown : mapP w ek ok b M)
    (key : κ) (z : Value) (hx : a.eval x = ek key) (hin : ∀ p ∈ M, p.1 ≠ key) (hok : ok key) (hz : (zeroValue e).run P w = .ok z w) (hK : wpList P ops Q rest (a.put o.dst z) w) : wpList P ops Q (o :: rest) a w := by
  refine wpList_plain hg fun K' hK' => ?_
  have hrun := hown.miss K ht hin hok hz false
  unfold Oper.wp
  simp [execOp, hop, hm, hx, hrun, Result.andThen]
  exact hK' _ _ hK
theorem wpList_miss_ok (K : KeyE P k ek ok) (hg : o.guard = none) (m x : Operand) (t : TypeId) (hop : o.op = Op.lookup t m x true) (ht : P.underlying t = some (.map k e)) (hm : a.eval m = .map (some b)) (hown : mapP w ek ok b M)
    (key : κ) (z : Value) (hx : a.eval x = ek key) (hin : ∀ p ∈ M, p.1 ≠ key) (hok : ok key) (hz : (zeroValue e).run P w = .ok z w) (hK : wpList P ops Q rest (a.put o.dst (.tuple #[z, .bool false])) w) : wpList P ops Q (o :: rest) a w := by
  refine wpList_plain hg fun K' hK' => ?_
  have hrun := hown.miss K ht hin hok hz true
  unfold Oper.wp
  simp [execOp, hop, hm, hx, hrun, Result.andThen]
  exact hK' _ _ hK
theorem wpList_put [DecidableEq κ] (K : KeyE P k ek ok) (hg : o.guard = none) (m x v : Operand) (t : TypeId) (hop : o.op = Op.mapUpdate t m x v) (ht : P.underlying t = some (.map k e)) (hm : a.eval m = .map (some b)) (hown : mapP w ek ok b M)
    (key : κ) (val : Value) (hx : a.eval x = ek key) (hv : a.eval v = val) (hok : ok key) (hK : ∀ w', mapP w' ek ok b (putM key val M) → Off (· = b) w w' → wpList P ops Q rest (a.put o.dst undef) w') : wpList P ops Q (o :: rest) a w := by
  refine wpList_plain hg fun K' hK' => ?_
  obtain ⟨es', clock', hrun, hmap⟩ := hown.update K ht key val hok
  unfold Oper.wp
  simp [execOp, hop, hm, hx, hv, hrun, Result.andThen]
  exact hK' _ _ (hK _ hmap (off_setBlock w b _ rfl))
end
end Go.Proofs.YtcgmnjajodegmaaGreat.B
namespace Go.Proofs.YtcgmnjajodegmaaGreat.B
set_option linter.unusedVariables false
set_option linter.unusedSimpArgs false
open Go.ChangeShapes Go.WideShapes Go.RowKit Go.Sort Go.MapKept
theorem key_one {P : Program} {k : TypeId} {q : IntKind} {f : Field} (hk : P.underlying k = some (.struct #[f])) (hf : P.underlying f.type = some (.int q)) (h0 : f.offset = 0) (hn : (f.name != "_") = true)
    {n : Nat} (hs : P.types.size = n + 1) (hc : P.cellsOf k = 1) (hd : P.cellsOf f.type = 1) (hkey : P.keyType k = true) {a : Int} (hw : (Lit.int q a).wf = true) :
    ∃ l, keyOf P k (.agg #[.int q a]) = some l := by
  have hfm : (Value.agg #[Value.int q a]).formed P k = true := by simp [Value.formed, hk, hc]
  refine ⟨.string (keyBytes [.int q a]), ?_⟩
  have e1 : P.keyLits (n + 1) f.type [Value.int q a] = some [Lit.int q a] := by simp [Program.keyLits, hf, hw]
  have e2 : P.keyLits (P.types.size + 1) k [Value.int q a] = some [Lit.int q a] := by
    rw [hs]
    have : P.keyLits (n + 1 + 1) k [Value.int q a] = (if [Value.int q a].length = P.cellsOf k ∧ (#[f]).all (·.name != "_") = true then ((#[f]).toList.mapM fun f => P.keyLits (n + 1) f.type (([Value.int q a].drop f.offset).take (P.cellsOf f.type))).map List.flatten else none) := by
      rw [Program.keyLits.eq_def]; simp only [hk]
    rw [this, if_pos ⟨by simp [hc], by simpa using hn⟩]
    simp [h0, hd, e1]
  unfold keyOf
  rw [hk]
  simp only [hkey, hfm, Bool.and_self, if_true]
  show ((P.keyLits (P.types.size + 1) k [Value.int q a]).map _) = _
  rw [e2]; rfl
theorem wf_u32 {a : Int} (h0 : 0 ≤ a) (h1 : a < 4294967296) : (Lit.int .u32 a).wf = true := WalkArith.wf_u32 (by omega)
/-- The key of a number. -/
def ek (a : Int) : Value := .agg #[.int .u32 a]
def ok32 (a : Int) : Prop := 0 ≤ a ∧ a < 4294967296
theorem ek_inj (i j : Int) (h : ek i = ek j) : i = j := by unfold ek at h; simpa using h
theorem laidT : laidOutB Tryz.prog = true := by kernel_rfl
theorem sizeT : Tryz.prog.types.size = (Tryz.prog.types.size - 1) + 1 := by kernel_rfl
theorem cplaceLaw : Maps.Keyed Tryz.prog 245 :=
  Maps.Keyed.of_law (deep_law_laid laidT (m := 2) (by omega) (of_decide_eq_true (by kernel_rfl)) (by kernel_rfl) (by rw [Tryz.underlying245]))
theorem cplaceKey : KeyE Tryz.prog 245 ek ok32 :=
  ⟨cplaceLaw, fun i h => key_one Tryz.underlying245 Tryz.underlying22 rfl (by decide) sizeT (by kernel_rfl) (by kernel_rfl) (by kernel_rfl) (wf_u32 h.1 h.2), ek_inj⟩
theorem pageLaw : Maps.Keyed Tryz.prog 260 :=
  Maps.Keyed.of_law (deep_law_laid laidT (m := 2) (by omega) (of_decide_eq_true (by kernel_rfl)) (by kernel_rfl) (by rw [Tryz.underlying260]))
theorem pageKey : KeyE Tryz.prog 260 ek ok32 :=
  ⟨pageLaw, fun i h => key_one Tryz.underlying260 Tryz.underlying22 rfl (by decide) sizeT (by kernel_rfl) (by kernel_rfl) (by kernel_rfl) (wf_u32 h.1 h.2), ek_inj⟩
end Go.Proofs.YtcgmnjajodegmaaGreat.B
namespace Go.Proofs.YtcgmnjajodegmaaGreat.B
set_option linter.unusedVariables false
set_option linter.unusedSimpArgs false
open Go.RowKit Go.Sort
section
variable {P : Program}
/-- The values lie in the cells from a place on. -/
def PartAt (cs : Array Value) (o : Nat) (vs : List Value) : Prop := ∀ j v, vs[j]? = some v → cs[o + j]? = some v
theorem part_all (vs : List Value) : PartAt vs.toArray 0 vs := fun j v h => by simpa using h
theorem part_left (xs ys : List Value) : PartAt (xs ++ ys).toArray 0 xs := fun j v h => by
  have hj : j < xs.length := (List.getElem?_eq_some_iff.1 h).1
  simp [List.getElem?_append_left hj, h]
theorem part_right (xs ys : List Value) (o : Nat) (ho : xs.length = o) : PartAt (xs ++ ys).toArray o ys := fun j v h => by
  subst ho
  simp [List.getElem?_append_right, h]
theorem loadVar_part (w : World) (g o : Nat) (t ty : TypeId) (cs : Array Value) (fr : Nat × Nat) (d : TypeDesc) (vs : List Value) (hg : w.heap[g]? = some (.cells cs t fr))
    (hu : P.underlying ty = some d) (hd : (match d with | .struct _ | .array _ _ => true | _ => false) = true) (hi : (P.info? ty).map (·.size) = some vs.length) (hp : PartAt cs o vs) :
    (loadVar ty ⟨g, o, none⟩).run P w = .ok (.agg vs.toArray) w := by
  have hl : (loadCells ⟨g, o, none⟩ vs.length).run P w = .ok vs.toArray w :=
    run_loadCells_list (P := P) w ⟨g, o, none⟩ vs (fun j v hv => by
      have hadd : (⟨g, o, none⟩ : Addr).add j = ⟨g, o + j, none⟩ := by unfold Addr.add; split <;> simp_all
      rw [hadd, cell_of_row w g (o + j) cs t fr hg]
      exact hp j v hv)
  cases hq : P.info? ty with
  | none => simp [hq] at hi
  | some i =>
    have hs : i.size = vs.length := by simpa [hq] using hi
    have hagg : (isAgg ty).run P w = .ok true w := by
      unfold isAgg
      rw [Sem.run_bind, run_underlying hu w]
      cases d <;> simp_all
    simp [loadVar, Sem.run_bind, hagg, sizeOf, typeInfo, hq, hs, hl]
/-- What a block holds behind a store of some values from a place on. -/
def spliced (cs : Array Value) (o : Nat) (vs : List Value) : Array Value := (cs.toList.take o ++ vs ++ cs.toList.drop (o + vs.length)).toArray
theorem spliced_all (cs : Array Value) (vs : List Value) (h : cs.size = vs.length) : spliced cs 0 vs = vs.toArray := by
  unfold spliced
  rw [List.drop_of_length_le (by simp; omega)]
  simp
theorem spliced_left (xs ys vs : List Value) (h : xs.length = vs.length) : spliced (xs ++ ys).toArray 0 vs = (vs ++ ys).toArray := by
  unfold spliced; simp [← h]
theorem spliced_right (xs ys vs : List Value) (o : Nat) (ho : xs.length = o) (h : ys.length = vs.length) : spliced (xs ++ ys).toArray o vs = (xs ++ vs).toArray := by
  unfold spliced; subst ho; simp [← h, List.drop_of_length_le]
theorem storeVar_part (w : World) (g o : Nat) (t ty : TypeId) (cs : Array Value) (vs : List Value) (hg : w.heap[g]? = some (.cells cs t (0, 0))) (hi : (P.info? ty).map (·.size) = some vs.length)
    (hl : o + vs.length ≤ cs.size) (h1 : ∀ v ∈ vs, v.oneCell' = true) :
    (storeVar ty ⟨g, o, none⟩ (.agg vs.toArray)).run P w = .ok () (w.setRow g (spliced cs o vs)) := by
  have := run_storeCells_at (P := P) g o t vs 0 cs w hg (by simpa using hl) h1
  cases hq : P.info? ty with
  | none => simp [hq] at hi
  | some i =>
    have hs : vs.length = i.size := by simp [hq] at hi; omega
    simp only [Nat.add_zero] at this
    simp [storeVar, sizeOf, typeInfo, hq, Value.cells, hs, this, spliced]
theorem wp_load_part {o : Oper} {a : Act} {w : World} {K : Act → World → Prop} {Q : Exit → Act → World → Prop} (ty : TypeId) (x : Operand) (ho : o.op = .load ty x)
    (g off : Nat) (hx : a.eval x = .pointer (some ⟨g, off, none⟩)) {t : TypeId} {cs : Array Value} {fr : Nat × Nat} (d : TypeDesc) (vs : List Value) (hg : w.heap[g]? = some (.cells cs t fr))
    (hu : P.underlying ty = some d) (hd : (match d with | .struct _ | .array _ _ => true | _ => false) = true) (hi : (P.info? ty).map (·.size) = some vs.length) (hp : PartAt cs off vs)
    (h : K (a.put o.dst (.agg vs.toArray)) w) : o.wp P a w K Q := by
  unfold Oper.wp execOp
  simp only [ho, hx, Instr.loadAt, Instr.sureAddr, Sem.run_bind, Sem.run_pure, Result.andThen_ok, loadVar_part w g off t ty cs fr d vs hg hu hd hi hp]
  exact h
theorem wpList_load_part {ops : Array Oper} {rest : List Oper} {o : Oper} {a : Act} {w : World} {Q : Exit → Act → World → Prop} (hgd : o.guard = none) (ty : TypeId) (x : Operand) (ho : o.op = .load ty x)
    (g off : Nat) (hx : a.eval x = .pointer (some ⟨g, off, none⟩)) {t : TypeId} {cs : Array Value} {fr : Nat × Nat} (d : TypeDesc) (vs : List Value) (hg : w.heap[g]? = some (.cells cs t fr))
    (hu : P.underlying ty = some d) (hd : (match d with | .struct _ | .array _ _ => true | _ => false) = true) (hi : (P.info? ty).map (·.size) = some vs.length) (hp : PartAt cs off vs)
    (h : wpList P ops Q rest (a.put o.dst (.agg vs.toArray)) w) : wpList P ops Q (o :: rest) a w :=
  wpList_plain hgd fun _ hK => wp_load_part ty x ho g off hx d vs hg hu hd hi hp (hK _ _ h)
/-- .. of an operation behind a guard that lets it run. -/
theorem wpList_load_part_g {ops : Array Oper} {rest : List Oper} {o : Oper} {a : Act} {w : World} {Q : Exit → Act → World → Prop} (ty : TypeId) (x : Operand) (ho : o.op = .load ty x) (hw : Region.wanted o (yielded ops a.tmps) = true)
    (g off : Nat) (hx : a.eval x = .pointer (some ⟨g, off, none⟩)) {t : TypeId} {cs : Array Value} {fr : Nat × Nat} (d : TypeDesc) (vs : List Value) (hg : w.heap[g]? = some (.cells cs t fr))
    (hu : P.underlying ty = some d) (hd : (match d with | .struct _ | .array _ _ => true | _ => false) = true) (hi : (P.info? ty).map (·.size) = some vs.length) (hp : PartAt cs off vs)
    (h : wpList P ops Q rest (a.put o.dst (.agg vs.toArray)) w) : wpList P ops Q (o :: rest) a w :=
  wpList_step fun _ hK => by rw [if_pos hw]; exact wp_load_part ty x ho g off hx d vs hg hu hd hi hp (hK _ _ h)
theorem wpList_store_part {ops : Array Oper} {rest : List Oper} {o : Oper} {a : Act} {w : World} {Q : Exit → Act → World → Prop} (hgd : o.guard = none) (ty : TypeId) (x y : Operand) (ho : o.op = .store ty x y)
    (g off : Nat) (hx : a.eval x = .pointer (some ⟨g, off, none⟩)) (vs : List Value) (hy : a.eval y = .agg vs.toArray) {t : TypeId} {cs : Array Value} (hg : w.heap[g]? = some (.cells cs t (0, 0)))
    (hi : (P.info? ty).map (·.size) = some vs.length) (hl : off + vs.length ≤ cs.size) (h1 : ∀ v ∈ vs, v.oneCell' = true)
    (h : wpList P ops Q rest (a.put o.dst undef) (w.setRow g (spliced cs off vs))) : wpList P ops Q (o :: rest) a w :=
  wpList_plain hgd fun _ hK => by
    unfold Oper.wp execOp
    simp only [ho, hx, hy, Instr.storeAt, Instr.sureAddr, Sem.run_bind, Sem.run_pure, Result.andThen_ok, storeVar_part w g off t ty cs vs hg hi hl h1]
    exact hK _ _ h
/-- .. in a region that draws its order: the block is the same in every world of the class. -/
theorem quiet_load_part {C : World → Prop} {o : Oper} {a : Act} {K : Act → Prop} (ty : TypeId) (x : Operand) (ho : o.op = .load ty x)
    (g off : Nat) (hx : a.eval x = .pointer (some ⟨g, off, none⟩)) {t : TypeId} {cs : Array Value} {fr : Nat × Nat} (d : TypeDesc) (vs : List Value) (hg : ∀ w, C w → w.heap[g]? = some (.cells cs t fr))
    (hu : P.underlying ty = some d) (hd : (match d with | .struct _ | .array _ _ => true | _ => false) = true) (hi : (P.info? ty).map (·.size) = some vs.length) (hp : PartAt cs off vs)
    (h : K (a.put o.dst (.agg vs.toArray))) : o.quiet P a C K :=
  ⟨_, fun w hw => by
    unfold Oper.quietAt execOp
    simp only [ho, hx, Instr.loadAt, Instr.sureAddr, Sem.run_bind, Sem.run_pure, Result.andThen_ok, loadVar_part w g off t ty cs fr d vs (hg w hw) hu hd hi hp]
    exact ⟨rfl, rfl⟩, h⟩
/-- Two results: one in cells, one in a slot. -/
theorem results_cell_slot {fn : Func} {p q : Tmp} {ty : TypeId} (h : fn.results = #[.cell p ty, .tmp q]) (tmps : Array Value) (w : World) (g off : Nat) {t : TypeId} {cs : Array Value} {fr : Nat × Nat} (d : TypeDesc) (vs : List Value) (y : Value)
    (hp : tmps[p]? = some (.pointer (some ⟨g, off, none⟩))) (hq : tmps[q]? = some y) (hg : w.heap[g]? = some (.cells cs t fr))
    (hu : P.underlying ty = some d) (hd : (match d with | .struct _ | .array _ _ => true | _ => false) = true) (hi : (P.info? ty).map (·.size) = some vs.length) (hpt : PartAt cs off vs) :
    (results fn tmps).run P w = .ok (.tuple #[.agg vs.toArray, y]) w := by
  simp [results, h, hp, hq, asAddr, loadVar_part w g off t ty cs fr d vs hg hu hd hi hpt]
theorem results_cell_one {fn : Func} {p : Tmp} {ty : TypeId} (h : fn.results = #[.cell p ty]) (tmps : Array Value) (w : World) (g off : Nat) {t : TypeId} {cs : Array Value} {fr : Nat × Nat} (d : TypeDesc) (vs : List Value)
    (hp : tmps[p]? = some (.pointer (some ⟨g, off, none⟩))) (hg : w.heap[g]? = some (.cells cs t fr))
    (hu : P.underlying ty = some d) (hd : (match d with | .struct _ | .array _ _ => true | _ => false) = true) (hi : (P.info? ty).map (·.size) = some vs.length) (hpt : PartAt cs off vs) :
    (results fn tmps).run P w = .ok (.agg vs.toArray) w := by
  simp [results, h, hp, asAddr, loadVar_part w g off t ty cs fr d vs hg hu hd hi hpt]
end
theorem grown_block {w : World} {b : Nat} {o : Obj} (h : w.heap[b]? = some o) : ∀ w', (∃ p : Regrown, w' = grow (redrawn w p.d) p.os) → w'.heap[b]? = some o := by
  rintro w' ⟨p, rfl⟩
  exact blk_below (below_regrown w p.d p.os) h (lt_of_block h)
/-- Rows set whole. -/
theorem row_set {w : World} {g : Nat} {old : Array Value} {t : TypeId} (cs : Array Value) (h : w.heap[g]? = some (.cells old t (0, 0))) : (w.setRow g cs).heap[g]? = some (.cells cs t (0, 0)) := setRow_heap w g old cs t (0, 0) h
theorem row_else {w : World} {b : Nat} {o : Obj} (g : Nat) (cs : Array Value) (h : w.heap[b]? = some o) (hne : b ≠ g) : (w.setRow g cs).heap[b]? = some o := by rw [setRow_other w g b cs hne]; exact h
theorem below_setRow {B : Nat} {w w' : World} (h : Below B w w') {g : Nat} (cs : Array Value) (hg : B ≤ g) : Below B w (w'.setRow g cs) :=
  ⟨h.os, h.tape, h.output, by simpa using h.size, fun k hk => (setRow_other w' g k cs (by omega)).trans (h.block k hk)⟩
theorem set_arr (l : List Value) (k : Nat) (v : Value) : l.toArray.setIfInBounds k v = (l.set k v).toArray := by simp
/-- A row of truths. -/
def bl (f : Nat → Bool) (n : Nat) : List Value := (List.range n).map fun i => .bool (f i)
theorem bl_len (f : Nat → Bool) (n : Nat) : (bl f n).length = n := by simp [bl]
theorem bl_one (f : Nat → Bool) (n : Nat) : ∀ v ∈ bl f n, v.oneCell' = true := by
  intro v h
  obtain ⟨i, _, rfl⟩ := List.mem_map.1 h
  rfl
theorem bl_get (f : Nat → Bool) (n i : Nat) (h : i < n) : (bl f n)[i]? = some (.bool (f i)) := by simp [bl, h]
theorem bl_congr (f g : Nat → Bool) (n : Nat) (h : ∀ i, i < n → f i = g i) : bl f n = bl g n := by
  unfold bl
  exact List.map_congr_left fun i hi => by rw [h i (by simpa using hi)]
theorem bl_set (f : Nat → Bool) (n k : Nat) (b : Bool) : (bl f n).set k (.bool b) = bl (fun i => if i = k then b else f i) n := by
  apply List.ext_getElem?
  intro i
  by_cases hi : i < n
  · rw [bl_get _ _ _ hi, List.getElem?_set]
    by_cases e : k = i
    · subst e; simp [bl_len, hi]
    · rw [if_neg e, if_neg (fun h => e h.symm), bl_get _ _ _ hi]
  · rw [List.getElem?_eq_none (by simp [bl_len]; omega), List.getElem?_eq_none (by simp [bl_len]; omega)]
end Go.Proofs.YtcgmnjajodegmaaGreat.B
