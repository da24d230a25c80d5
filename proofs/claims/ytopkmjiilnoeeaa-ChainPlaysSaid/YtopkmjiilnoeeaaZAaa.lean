/- Several texts in one: Small words of all stages: returned values, worlds that grow. Layer 17 (chain) in plain lists: things with keys, in the .. -/
import Derived.Test.YtopkmjiilnoeeaaRows
import Derived.WalkKit
import Derived.WalkLawsBesides
import Derived.Lib.Hide
import Derived.Lib.QuietBelow
import Derived.Laws.ResultCell
import Derived.Deep.QuietTactic
import Derived.BigQuiet
import Derived.Maps.Own
import Derived.Maps.OwnOps
import Derived.WideKeyEntry
import Derived.DeepKeys4
namespace Go.Proofs.Ytopkmjiilnoeeaa.B
set_option linter.unusedVariables false
set_option linter.unusedSimpArgs false
open Go.ChangeShapes Go.WideShapes Go.RowKit Go.Sort
theorem Hd {p : Prop} (h : p) : Go.RowKit.Hid p := h
abbrev RetB (P : Program) (f : FuncId) (args : Array Value) (w : World) (v : Value) : Prop := Calls P f args w fun e w' => e = .returned v ∧ Below w.heap.size w w'
theorem tr {a b c : World} (h : Below a.heap.size a b) (k : Below b.heap.size b c) : Below a.heap.size a c := h.trans (k.mono h.size)
theorem trA {a b : World} (h : Below a.heap.size a b) (o : Obj) : Below a.heap.size a (b.alloc o) := h.alloc h.size o
theorem trN {a b : World} (h : Below a.heap.size a b) (n : Nat) : Below a.heap.size a (b.drewN n) := h.trans ⟨rfl, rfl, rfl, Nat.le_refl _, fun _ _ => rfl⟩
theorem trD {a b : World} (h : Below a.heap.size a b) : Below a.heap.size a b.drew := h.drew
theorem tr0 (a : World) : Below a.heap.size a a := Below.refl _ _
theorem bcell {W w1 : World} (hb : Below W.heap.size W w1) : (∀ b o, b < W.heap.size → w1.cell? ⟨b, o, none⟩ = W.cell? ⟨b, o, none⟩) ∧ (∀ b o, b < W.heap.size → w1.frozen? ⟨b, o, none⟩ = W.frozen? ⟨b, o, none⟩) :=
 ⟨fun b o h => hb.cell (p := ⟨b, o, none⟩) h, fun b o h => hb.frozen (p := ⟨b, o, none⟩) h⟩
theorem gcell (W : World) (d : Nat) (os : Array Obj) (b o : Nat) (h : b < W.heap.size) : (grow (redrawn W d) os).cell? ⟨b, o, none⟩ = W.cell? ⟨b, o, none⟩ := (bcell (below_regrown W d os)).1 b o h
theorem gfrozen (W : World) (d : Nat) (os : Array Obj) (b o : Nat) (h : b < W.heap.size) : (grow (redrawn W d) os).frozen? ⟨b, o, none⟩ = W.frozen? ⟨b, o, none⟩ := (bcell (below_regrown W d os)).2 b o h
theorem blk_cell {w : World} {b : Nat} {cs : Array Value} {t : TypeId} (h : w.heap[b]? = some (.cells cs t (0, 0))) (j : Nat) : w.cell? ⟨b, j, none⟩ = cs[j]? := by simp [World.cell?, h]
theorem blk_free {w : World} {b : Nat} {cs : Array Value} {t : TypeId} (h : w.heap[b]? = some (.cells cs t (0, 0))) (j : Nat) : w.frozen? ⟨b, j, none⟩ = false := by simp [World.frozen?, h]
theorem blk_set {w : World} {b : Nat} {cs : Array Value} {t : TypeId} (h : w.heap[b]? = some (.cells cs t (0, 0))) (j : Nat) (v : Value) : (w.setCell ⟨b, j, none⟩ v).heap[b]? = some (.cells (cs.setIfInBounds j v) t (0, 0)) :=
 heap_setCell_same w b j cs t v h
theorem blk_below {B : Nat} {w w' : World} (hb : Below B w w') {b : Nat} {o : Obj} (h : w.heap[b]? = some o) (hl : b < B) : w'.heap[b]? = some o := by rw [hb.block b hl]; exact h
theorem blk_new (w : World) (o : Obj) : (w.alloc o).heap[w.heap.size]? = some o := by show (w.heap.push o)[w.heap.size]? = _; simp
theorem blk_old (w : World) (o : Obj) {b : Nat} (h : b < w.heap.size) : (w.alloc o).heap[b]? = w.heap[b]? := by show (w.heap.push o)[b]? = _; rw [Array.getElem?_push, if_neg (by omega)]
theorem b2_0 (w : World) (a b : Obj) : ((w.alloc a).alloc b).heap[w.heap.size]? = some a := (blk_old _ _ (by simp)).trans (blk_new w _)
theorem b2_1 (w : World) (a b : Obj) : ((w.alloc a).alloc b).heap[w.heap.size + 1]? = some b := by simpa using blk_new (w.alloc a) b
theorem b3_0 (w : World) (a b c : Obj) : (((w.alloc a).alloc b).alloc c).heap[w.heap.size]? = some a := (blk_old _ _ (by simp; omega)).trans (b2_0 w a b)
theorem b3_1 (w : World) (a b c : Obj) : (((w.alloc a).alloc b).alloc c).heap[w.heap.size + 1]? = some b := (blk_old _ _ (by simp)).trans (b2_1 w a b)
theorem b3_2 (w : World) (a b c : Obj) : (((w.alloc a).alloc b).alloc c).heap[w.heap.size + 2]? = some c := by simpa using blk_new ((w.alloc a).alloc b) c
theorem blk_else {w : World} {b : Nat} {o : Obj} (h : w.heap[b]? = some o) (k j : Nat) (v : Value) (hne : b ≠ k) : (w.setCell ⟨k, j, none⟩ v).heap[b]? = some o := by
 rw [Below.heap_setCell w ⟨k, j, none⟩ v b hne]; exact h
end Go.Proofs.Ytopkmjiilnoeeaa.B
namespace Go.Proofs.Ytopkmjiilnoeeaa.B
set_option linter.unusedVariables false
set_option linter.unusedSimpArgs false
set_option linter.unusedSectionVars false
section
variable {κ : Type} [DecidableEq κ]
def chAll (L : List (κ × Int)) (k : κ) : List Int := (L.filter fun x => decide (x.1 = k)).map (·.2)
def chRem (L : List (κ × Int)) (i : Int) : List (κ × Int) := L.filter fun x => decide (x.2 ≠ i)
def chTake (L : List (κ × Int)) (k : κ) : List (κ × Int) := L.filter fun x => decide (x.1 ≠ k)
def chHas (L : List (κ × Int)) (i : Int) : Bool := L.any fun x => decide (x.2 = i)
def chKey : List (κ × Int) → Int → Option κ
 | [], _ => none
 | x :: r, i => if x.2 = i then some x.1 else chKey r i
def chFst : List Int → Int
 | [] => -1
 | x :: _ => x
def chNext : List (κ × Int) → Int → Int
 | [], _ => -1
 | x :: r, i => if x.2 = i then chFst (chAll r x.1) else chNext r i
def chCan (n : Nat) (L : List (κ × Int)) (i : Int) : Bool := decide (0 ≤ i ∧ i < n) && !chHas L i
def chPush (n : Nat) (L : List (κ × Int)) (k : κ) (i : Int) : List (κ × Int) := if chCan n L i = true then L ++ [(k, i)] else L
structure ChOk (n : Nat) (L : List (κ × Int)) : Prop where
 nd : (L.map (·.2)).Nodup
 rg : ∀ x ∈ L, 0 ≤ x.2 ∧ x.2 < n
theorem chHas_iff (L : List (κ × Int)) (i : Int) : chHas L i = true ↔ ∃ x ∈ L, x.2 = i := by unfold chHas; simp
theorem chHas_no {L : List (κ × Int)} {i : Int} (h : chHas L i = false) : ∀ x ∈ L, x.2 ≠ i := fun x hx e => by
 have := (chHas_iff L i).2 ⟨x, hx, e⟩
 rw [h] at this; cases this
theorem chHas_nil (i : Int) : chHas ([] : List (κ × Int)) i = false := rfl
theorem ChOk.nil (n : Nat) : ChOk n ([] : List (κ × Int)) := ⟨by simp, fun x h => by cases h⟩
theorem ChOk.sub {n : Nat} {L M : List (κ × Int)} (h : ChOk n L) (hs : M.Sublist L) : ChOk n M := ⟨(hs.map _).nodup h.nd, fun x hx => h.rg x (hs.subset hx)⟩
theorem ChOk.rem {n : Nat} {L : List (κ × Int)} (h : ChOk n L) (i : Int) : ChOk n (chRem L i) := h.sub List.filter_sublist
theorem ChOk.take {n : Nat} {L : List (κ × Int)} (h : ChOk n L) (k : κ) : ChOk n (chTake L k) := h.sub List.filter_sublist
theorem ChOk.push {n : Nat} {L : List (κ × Int)} (h : ChOk n L) (k : κ) (i : Int) : ChOk n (chPush n L k i) := by
 unfold chPush
 split
 · rename_i hc
   unfold chCan at hc
   simp only [Bool.and_eq_true, decide_eq_true_eq, Bool.not_eq_true'] at hc
   refine ⟨?_, fun x hx => ?_⟩
   · rw [List.map_append, List.nodup_append]
     refine ⟨h.nd, by simp, fun a ha b hb e => ?_⟩
     obtain ⟨x, hx, rfl⟩ := List.mem_map.1 ha
     simp at hb
     exact chHas_no hc.2 x hx (by rw [e, hb])
   · rcases List.mem_append.1 hx with hx | hx
     · exact h.rg x hx
     · simp at hx; rw [hx]; exact hc.1
 · exact h
theorem chCan_iff (n : Nat) (L : List (κ × Int)) (i : Int) : chCan n L i = true ↔ (0 ≤ i ∧ i < n) ∧ chHas L i = false := by
 unfold chCan
 simp only [Bool.and_eq_true, decide_eq_true_eq, Bool.not_eq_true']
theorem chHas_cons (x : κ × Int) (L : List (κ × Int)) (i : Int) : chHas (x :: L) i = (decide (x.2 = i) || chHas L i) := rfl
def chCnt (L : List (κ × Int)) : Nat → Nat
 | 0 => 0
 | k + 1 => chCnt L k + (if chHas L (k : Int) = true then 1 else 0)
theorem chCnt_nil (k : Nat) : chCnt ([] : List (κ × Int)) k = 0 := by
 induction k with
 | zero => rfl
 | succ k ih => show chCnt [] k + _ = 0; rw [ih, chHas_nil]; rfl
theorem chCnt_cons (x : κ × Int) (L : List (κ × Int)) (hx : chHas L x.2 = false) (k : Nat) : chCnt (x :: L) k = chCnt L k + (if 0 ≤ x.2 ∧ x.2 < k then 1 else 0) := by
 induction k with
 | zero => show 0 = 0 + _; rw [if_neg (by omega)]
 | succ k ih =>
   show chCnt (x :: L) k + _ = chCnt L k + _ + _
   rw [ih, chHas_cons]
   by_cases e : x.2 = (k : Int)
   · have a : (if 0 ≤ x.2 ∧ x.2 < (k : Int) then 1 else 0) = 0 := if_neg (by omega)
     have b : (if 0 ≤ x.2 ∧ x.2 < ((k + 1 : Nat) : Int) then 1 else 0) = 1 := if_pos (by omega)
     have c : chHas L (k : Int) = false := by rw [← e]; exact hx
     rw [a, b, c, decide_eq_true e]
     simp
   · rw [decide_eq_false e, Bool.false_or]
     by_cases h : 0 ≤ x.2 ∧ x.2 < (k : Int)
     · have a : (if 0 ≤ x.2 ∧ x.2 < (k : Int) then 1 else 0) = 1 := if_pos h
       have b : (if 0 ≤ x.2 ∧ x.2 < ((k + 1 : Nat) : Int) then 1 else 0) = 1 := if_pos (by omega)
       rw [a, b]
       omega
     · have a : (if 0 ≤ x.2 ∧ x.2 < (k : Int) then 1 else 0) = 0 := if_neg h
       have b : (if 0 ≤ x.2 ∧ x.2 < ((k + 1 : Nat) : Int) then 1 else 0) = 0 := if_neg (by omega)
       rw [a, b]
       omega
theorem chCnt_all {n : Nat} : ∀ {L : List (κ × Int)}, ChOk n L → chCnt L n = L.length
 | [], _ => chCnt_nil n
 | x :: L, h => by
   have hn := List.nodup_cons.1 h.nd
   have hx : chHas L x.2 = false := by
    cases hh : chHas L x.2 with
    | false => rfl
    | true => obtain ⟨y, hy, e⟩ := (chHas_iff L x.2).1 hh; exact absurd (List.mem_map.2 ⟨y, hy, e⟩) hn.1
   rw [chCnt_cons x L hx, chCnt_all ⟨hn.2, fun y hy => h.rg y (List.mem_cons_of_mem _ hy)⟩, if_pos (h.rg x (by simp))]
   rfl
theorem chCnt_le (L : List (κ × Int)) (k : Nat) : chCnt L k ≤ k := by
 induction k with
 | zero => exact Nat.le_refl _
 | succ k ih => show chCnt L k + _ ≤ _; split <;> omega
theorem ChOk.len {n : Nat} {L : List (κ × Int)} (h : ChOk n L) : L.length ≤ n := by rw [← chCnt_all h]; exact chCnt_le L n
theorem chAll_nil (k : κ) : chAll ([] : List (κ × Int)) k = [] := rfl
theorem chAll_cons (x : κ × Int) (L : List (κ × Int)) (k : κ) : chAll (x :: L) k = (if x.1 = k then [x.2] else []) ++ chAll L k := by
 unfold chAll
 rw [List.filter_cons]
 by_cases e : x.1 = k <;> simp [e]
theorem chAll_append (L M : List (κ × Int)) (k : κ) : chAll (L ++ M) k = chAll L k ++ chAll M k := by unfold chAll; rw [List.filter_append, List.map_append]
theorem chAll_le (L : List (κ × Int)) (k : κ) : (chAll L k).length ≤ L.length := by unfold chAll; rw [List.length_map]; exact List.length_filter_le _ _
theorem chAll_mem (L : List (κ × Int)) (k : κ) (i : Int) : i ∈ chAll L k ↔ (k, i) ∈ L := by
 unfold chAll
 constructor
 · intro h
   obtain ⟨x, hx, rfl⟩ := List.mem_map.1 h
   obtain ⟨h1, h2⟩ := List.mem_filter.1 hx
   have h2 : x.1 = k := by simpa using h2
   rw [← h2]; exact h1
 · intro h
   exact List.mem_map.2 ⟨(k, i), List.mem_filter.2 ⟨h, by simp⟩, rfl⟩
theorem chAll_nd {n : Nat} {L : List (κ × Int)} (h : ChOk n L) (k : κ) : (chAll L k).Nodup := (List.filter_sublist.map (fun x : κ × Int => x.2)).nodup h.nd
theorem chAll_take (L : List (κ × Int)) (k : κ) : chAll (chTake L k) k = [] := by
 unfold chAll chTake
 rw [List.filter_filter]
 simp
theorem chAll_other (L : List (κ × Int)) {k j : κ} (h : j ≠ k) : chAll (chTake L k) j = chAll L j := by
 unfold chAll chTake
 rw [List.filter_filter]
 congr 1
 apply List.filter_congr
 intro x _
 by_cases e : x.1 = j
 · have : ¬ x.1 = k := fun e2 => h (e ▸ e2)
   simp [e, this, h]
 · simp [e]
theorem chTake_len (L : List (κ × Int)) (k : κ) : (chTake L k).length + (chAll L k).length = L.length := by
 induction L with
 | nil => rfl
 | cons x L ih =>
   rw [chAll_cons]
   unfold chTake at ih ⊢
   rw [List.filter_cons, List.length_append, List.length_cons]
   by_cases e : x.1 = k
   · rw [if_neg (by simp [e]), if_pos e]
     show _ + (1 + _) = _
     omega
   · rw [if_pos (by simp [e]), if_neg e, List.length_cons]
     show _ + (0 + _) = _
     omega
def chDrop (L : List (κ × Int)) (l : List Int) : List (κ × Int) := L.filter fun x => decide (x.2 ∉ l)
theorem chDrop_nil (L : List (κ × Int)) : chDrop L [] = L := by unfold chDrop; simp
theorem chDrop_snoc (L : List (κ × Int)) (l : List Int) (i : Int) : chRem (chDrop L l) i = chDrop L (l ++ [i]) := by
 unfold chRem chDrop
 rw [List.filter_filter]
 apply List.filter_congr
 intro x _
 by_cases h1 : x.2 = i <;> by_cases h2 : x.2 ∈ l <;> simp [h1, h2]
theorem mem_two {n : Nat} {L : List (κ × Int)} (h : ChOk n L) {x y : κ × Int} (hx : x ∈ L) (hy : y ∈ L) (e : x.2 = y.2) : x = y := by
 have nd := h.nd
 clear h
 induction L with
 | nil => cases hx
 | cons z L ih =>
   obtain ⟨h1, h2⟩ := List.nodup_cons.1 nd
   rcases List.mem_cons.1 hx with hx1 | hx1
   · rcases List.mem_cons.1 hy with hy1 | hy1
     · rw [hx1, hy1]
     · exact absurd (List.mem_map.2 ⟨y, hy1, by rw [← e, hx1]⟩) h1
   · rcases List.mem_cons.1 hy with hy1 | hy1
     · exact absurd (List.mem_map.2 ⟨x, hx1, by rw [e, hy1]⟩) h1
     · exact ih hx1 hy1 h2
theorem chDrop_all {n : Nat} {L : List (κ × Int)} (h : ChOk n L) (k : κ) : chDrop L (chAll L k) = chTake L k := by
 unfold chDrop chTake
 apply List.filter_congr
 intro x hx
 by_cases e : x.1 = k
 · have : x.2 ∈ chAll L k := (chAll_mem L k x.2).2 (by rw [← e]; exact hx)
   simp [e, this]
 · have : x.2 ∉ chAll L k := fun hm => by
    have h2 := (chAll_mem L k x.2).1 hm
    exact e (by rw [mem_two h hx h2 rfl])
   simp [e, this]
theorem ch_case (L : List (κ × Int)) (i : Int) : (∀ x ∈ L, x.2 ≠ i) ∨ ∃ (p : Nat) (x : κ × Int), L[p]? = some x ∧ x.2 = i ∧ ∀ (q : Nat) (y : κ × Int), q < p → L[q]? = some y → y.2 ≠ i := by
 induction L with
 | nil => exact .inl fun x h => by cases h
 | cons z L ih =>
   by_cases e : z.2 = i
   · exact .inr ⟨0, z, rfl, e, fun q y hq => by omega⟩
   · rcases ih with h | ⟨p, x, h1, h2, h3⟩
     · exact .inl fun x hx => by
        rcases List.mem_cons.1 hx with rfl | hx
        · exact e
        · exact h x hx
     · refine .inr ⟨p + 1, x, h1, h2, fun q y hq hy => ?_⟩
       cases q with
       | zero => simp at hy; rw [← hy]; exact e
       | succ q => exact h3 q y (by omega) (by simpa using hy)
theorem chKey_none {L : List (κ × Int)} {i : Int} (h : ∀ x ∈ L, x.2 ≠ i) : chKey L i = none := by
 induction L with
 | nil => rfl
 | cons z L ih =>
   show (if z.2 = i then some z.1 else chKey L i) = none
   rw [if_neg (h z (by simp))]
   exact ih fun x hx => h x (List.mem_cons_of_mem _ hx)
theorem chNext_none {L : List (κ × Int)} {i : Int} (h : ∀ x ∈ L, x.2 ≠ i) : chNext L i = -1 := by
 induction L with
 | nil => rfl
 | cons z L ih =>
   show (if z.2 = i then chFst (chAll L z.1) else chNext L i) = -1
   rw [if_neg (h z (by simp))]
   exact ih fun x hx => h x (List.mem_cons_of_mem _ hx)
theorem chKey_at {L : List (κ × Int)} {i : Int} {p : Nat} {x : κ × Int} (h1 : L[p]? = some x) (h2 : x.2 = i) (h3 : ∀ q y, q < p → L[q]? = some y → y.2 ≠ i) : chKey L i = some x.1 := by
 induction L generalizing p with
 | nil => cases h1
 | cons z L ih =>
   show (if z.2 = i then some z.1 else chKey L i) = _
   cases p with
   | zero => simp at h1; rw [if_pos (by rw [h1]; exact h2), h1]
   | succ p =>
     rw [if_neg (h3 0 z (by omega) rfl)]
     exact ih (by simpa using h1) fun q y hq hy => h3 (q + 1) y (by omega) (by simpa using hy)
theorem chNext_at {L : List (κ × Int)} {i : Int} {p : Nat} {x : κ × Int} (h1 : L[p]? = some x) (h2 : x.2 = i) (h3 : ∀ q y, q < p → L[q]? = some y → y.2 ≠ i) : chNext L i = chFst (chAll (L.drop (p + 1)) x.1) := by
 induction L generalizing p with
 | nil => cases h1
 | cons z L ih =>
   show (if z.2 = i then chFst (chAll L z.1) else chNext L i) = _
   cases p with
   | zero => simp at h1; rw [if_pos (by rw [h1]; exact h2), h1]; rfl
   | succ p =>
     rw [if_neg (h3 0 z (by omega) rfl)]
     exact ih (by simpa using h1) fun q y hq hy => h3 (q + 1) y (by omega) (by simpa using hy)
theorem chHas_key (L : List (κ × Int)) (i : Int) : chHas L i = (chKey L i).isSome := by
 induction L with
 | nil => rfl
 | cons z L ih =>
   rw [chHas_cons, ih]
   show _ = (if z.2 = i then some z.1 else chKey L i).isSome
   by_cases e : z.2 = i <;> simp [e]
theorem chKey_mem {L : List (κ × Int)} {i : Int} {k : κ} (h : chKey L i = some k) : (k, i) ∈ L := by
 induction L with
 | nil => cases h
 | cons z L ih =>
   have h : (if z.2 = i then some z.1 else chKey L i) = some k := h
   split at h
   · rename_i e
     rw [← Option.some.inj h, ← e]
     simp
   · exact List.mem_cons_of_mem _ (ih h)
theorem chKey_of {n : Nat} {L : List (κ × Int)} (ok : ChOk n L) {i : Int} {k : κ} (h : (k, i) ∈ L) : chKey L i = some k := by
 cases hk : chKey L i with
 | none =>
   have h1 := chHas_key L i
   rw [hk] at h1
   exact absurd rfl (chHas_no h1 _ h)
 | some j =>
   have := mem_two ok (chKey_mem hk) h rfl
   rw [(Prod.mk.inj this).1]
theorem chNext_step {n : Nat} {L : List (κ × Int)} (ok : ChOk n L) (k : κ) {j : Nat} {i : Int} (h : (chAll L k)[j]? = some i) : chNext L i = chFst ((chAll L k).drop (j + 1)) := by
 have nd := ok.nd
 clear ok
 induction L generalizing j with
 | nil => cases h
 | cons z L ih =>
   obtain ⟨h1, h2⟩ := List.nodup_cons.1 nd
   show (if z.2 = i then chFst (chAll L z.1) else chNext L i) = _
   rw [chAll_cons] at h ⊢
   by_cases e : z.1 = k
   · rw [if_pos e] at h ⊢
     cases j with
     | zero =>
       simp at h
       rw [if_pos h, e]
       rfl
     | succ j =>
       have h : (chAll L k)[j]? = some i := by simpa using h
       have hm := (chAll_mem L k i).1 (List.mem_of_getElem? h)
       rw [if_neg (fun e2 => h1 (List.mem_map.2 ⟨_, hm, e2.symm⟩)), ih h h2]
       rfl
   · rw [if_neg e, List.nil_append] at h ⊢
     have hm := (chAll_mem L k i).1 (List.mem_of_getElem? h)
     rw [if_neg (fun e2 => h1 (List.mem_map.2 ⟨_, hm, e2.symm⟩)), ih h h2]
theorem chFst_drop (l : List Int) (j : Nat) : (∃ i, l[j]? = some i ∧ chFst (l.drop j) = i) ∨ (l.length ≤ j ∧ chFst (l.drop j) = -1) := by
 by_cases h : j < l.length
 · refine .inl ⟨l[j], List.getElem?_eq_getElem h, ?_⟩
   rw [List.drop_eq_getElem_cons h]
   rfl
 · exact .inr ⟨by omega, by rw [List.drop_eq_nil_of_le (by omega)]; rfl⟩
def chIxB : List (κ × Int) → Int → Nat → Int
 | [], _, _ => -1
 | x :: r, i, s => if x.2 = i then s else chIxB r i (s + 1)
def chIx (L : List (κ × Int)) (i : Int) : Int := chIxB L i 0
theorem chIxB_none {L : List (κ × Int)} {i : Int} (h : ∀ x ∈ L, x.2 ≠ i) (s : Nat) : chIxB L i s = -1 := by
 induction L generalizing s with
 | nil => rfl
 | cons z L ih =>
   show (if z.2 = i then (s : Int) else chIxB L i (s + 1)) = -1
   rw [if_neg (h z (by simp))]
   exact ih (fun x hx => h x (List.mem_cons_of_mem _ hx)) _
theorem chIxB_at {L : List (κ × Int)} {i : Int} {p : Nat} {x : κ × Int} (h1 : L[p]? = some x) (h2 : x.2 = i) (h3 : ∀ (q : Nat) (y : κ × Int), q < p → L[q]? = some y → y.2 ≠ i) (s : Nat) : chIxB L i s = ((s + p : Nat) : Int) := by
 induction L generalizing p s with
 | nil => cases h1
 | cons z L ih =>
   show (if z.2 = i then (s : Int) else chIxB L i (s + 1)) = _
   cases p with
   | zero => simp at h1; rw [if_pos (by rw [h1]; exact h2)]; rfl
   | succ p =>
     rw [if_neg (h3 0 z (by omega) rfl), ih (by simpa using h1) (fun q y hq hy => h3 (q + 1) y (by omega) (by simpa using hy)) (s + 1)]
     congr 1
     omega
theorem chIx_none {L : List (κ × Int)} {i : Int} (h : ∀ x ∈ L, x.2 ≠ i) : chIx L i = -1 := chIxB_none h 0
theorem chIx_at {L : List (κ × Int)} {i : Int} {p : Nat} {x : κ × Int} (h1 : L[p]? = some x) (h2 : x.2 = i) (h3 : ∀ (q : Nat) (y : κ × Int), q < p → L[q]? = some y → y.2 ≠ i) : chIx L i = p := by
 have := chIxB_at h1 h2 h3 0
 rw [Nat.zero_add] at this
 exact this
theorem chHas_ix (L : List (κ × Int)) (i : Int) : chHas L i = decide (0 ≤ chIx L i) := by
 rcases ch_case L i with h | ⟨p, x, h1, h2, h3⟩
 · rw [chIx_none h, chHas_key, chKey_none h]; rfl
 · rw [chIx_at h1 h2 h3, chHas_key, chKey_at h1 h2 h3, decide_eq_true (by omega)]; rfl
theorem chRem_take1 (L : List (κ × Int)) (i : Int) {k : Nat} {z : κ × Int} (hz : L[k]? = some z) : chRem (L.take (k + 1)) i = chRem (L.take k) i ++ (if z.2 ≠ i then [z] else []) := by
 unfold chRem
 rw [List.take_add_one, hz, List.filter_append]
 congr 1
 by_cases e : z.2 = i <;> simp [e]
theorem chAll_take1 (L : List (κ × Int)) (j : κ) {k : Nat} {z : κ × Int} (hz : L[k]? = some z) : chAll (L.take (k + 1)) j = chAll (L.take k) j ++ (if z.1 = j then [z.2] else []) := by
 rw [List.take_add_one, hz, chAll_append]
 congr 1
 show chAll [z] j = _
 rw [chAll_cons, chAll_nil, List.append_nil]
theorem chAll_drop1 (L : List (κ × Int)) (j : κ) {k : Nat} {z : κ × Int} (hz : L[k]? = some z) : chAll (L.drop k) j = (if z.1 = j then [z.2] else []) ++ chAll (L.drop (k + 1)) j := by
 obtain ⟨hk, rfl⟩ := List.getElem?_eq_some_iff.1 hz
 rw [List.drop_eq_getElem_cons hk, chAll_cons]
theorem chRem_no {L : List (κ × Int)} {i : Int} (h : chHas L i = false) : chRem L i = L := by
 unfold chRem
 exact List.filter_eq_self.2 fun x hx => by simpa using chHas_no h x hx
end
end Go.Proofs.Ytopkmjiilnoeeaa.B
namespace Go.Proofs.Ytopkmjiilnoeeaa.B
set_option linter.unusedVariables false
set_option linter.unusedSimpArgs false
open Go.ChangeShapes Go.WideShapes Go.RowKit Go.Sort Go.MapKept
open Go.ChangeMaps (setBlock modify_eq_set set_perm)
structure Off (S : Nat → Prop) (w w' : World) : Prop where
 os : w'.os = w.os
 tape : w'.tape = w.tape
 output : w'.output = w.output
 size : w.heap.size ≤ w'.heap.size
 block : ∀ k, k < w.heap.size → ¬ S k → w'.heap[k]? = w.heap[k]?
theorem Off.refl (S : Nat → Prop) (w : World) : Off S w w := ⟨rfl, rfl, rfl, Nat.le_refl _, fun _ _ _ => rfl⟩
theorem Off.trans {S : Nat → Prop} {a b c : World} (h : Off S a b) (k : Off S b c) : Off S a c :=
 ⟨k.os.trans h.os, k.tape.trans h.tape, k.output.trans h.output, Nat.le_trans h.size k.size, fun i hi hs => (k.block i (Nat.lt_of_lt_of_le hi h.size) hs).trans (h.block i hi hs)⟩
theorem Off.mono {S T : Nat → Prop} {a b : World} (h : Off S a b) (hst : ∀ k, k < a.heap.size → S k → T k) : Off T a b :=
 ⟨h.os, h.tape, h.output, h.size, fun i hi hs => h.block i hi fun h1 => hs (hst i hi h1)⟩
theorem Off.next {S T : Nat → Prop} {a b c : World} (h : Off S a b) (k : Off T b c) (hst : ∀ i, i < a.heap.size → T i → S i) : Off S a c :=
 ⟨k.os.trans h.os, k.tape.trans h.tape, k.output.trans h.output, Nat.le_trans h.size k.size, fun i hi hs => (k.block i (Nat.lt_of_lt_of_le hi h.size) fun h1 => hs (hst i hi h1)).trans (h.block i hi hs)⟩
theorem Off.andThen {S T U : Nat → Prop} {a b c : World} (h : Off S a b) (k : Off T b c) (h1 : ∀ i, i < a.heap.size → S i → U i) (h2 : ∀ i, i < a.heap.size → T i → U i) : Off U a c := (h.mono h1).next k h2
theorem Off.restored {S T : Nat → Prop} {a b : World} (h : Off S a b) (hr : ∀ k, k < a.heap.size → S k → ¬ T k → b.heap[k]? = a.heap[k]?) : Off T a b :=
 ⟨h.os, h.tape, h.output, h.size, fun k hk hT => by
  by_cases hS : S k
  · exact hr k hk hS hT
  · exact h.block k hk hS⟩
theorem Off.ofBelow {S : Nat → Prop} {a b : World} (h : Below a.heap.size a b) : Off S a b := ⟨h.os, h.tape, h.output, h.size, fun i hi _ => h.block i hi⟩
theorem Off.ofGrown {S : Nat → Prop} {a b : World} {row : Option Nat} (h : a.grownBy b row) (hr : ∀ k, row = some k → S k) : Off S a b :=
 ⟨h.os, h.tape, h.output, h.size, fun i hi hs => h.block i hi fun e => hs (hr i e.symm)⟩
theorem Off.ofSetCell {S : Nat → Prop} (a : World) (p : Addr) (v : Value) (hp : S p.block) : Off S a (a.setCell p v) := by
 have h := (Below.refl p.block a).setCell (p := p) (Nat.le_refl _) v
 exact ⟨h.os, h.tape, h.output, h.size, fun k _ hs => Below.heap_setCell a p v k fun e => hs (by rw [e]; exact hp)⟩
theorem off_set (w : World) (p j : Nat) (v : Value) : Off (· = p) w (w.setCell ⟨p, j, none⟩ v) := Off.ofSetCell w ⟨p, j, none⟩ v rfl
theorem Off.ofAlloc {S : Nat → Prop} (a : World) (o : Obj) : Off S a (a.alloc o) := Off.ofBelow ((Below.refl _ _).alloc (Nat.le_refl _) o)
theorem Off.below {S : Nat → Prop} {B : Nat} {a b : World} (h : Off S a b) (hB : ∀ k, k < B → ¬ S k) (hle : B ≤ a.heap.size) : Below B a b :=
 ⟨h.os, h.tape, h.output, h.size, fun i hi => h.block i (Nat.lt_of_lt_of_le hi hle) (hB i hi)⟩
theorem Off.toBelow {B : Nat} {w a b : World} (h : Below B w a) {X : Nat → Prop} (ho : Off X a b) (hx : ∀ k, k < B → ¬ X k) (hB : B ≤ w.heap.size) : Below B w b :=
 h.trans (ho.below hx (Nat.le_trans hB h.size))
theorem Off.cell {S : Nat → Prop} {a b : World} (h : Off S a b) {p : Addr} (hp : p.block < a.heap.size) (hs : ¬ S p.block) : b.cell? p = a.cell? p := by
 simp only [World.cell?, h.block p.block hp hs]
theorem Off.at {S : Nat → Prop} {a b : World} (h : Off S a b) {k : Nat} {o : Obj} (hk : a.heap[k]? = some o) (hs : ¬ S k) : b.heap[k]? = some o := by
 rw [h.block k (lt_of_block hk) hs]; exact hk
structure KeyE (P : Program) (k : TypeId) {κ : Type} (ek : κ → Value) (ok : κ → Prop) : Prop where
 keyed : Maps.Keyed P k
 reads : ∀ i, ok i → ∃ l, keyOf P k (ek i) = some l
 inj : ∀ i j, ek i = ek j → i = j
def mapP (w : World) {κ : Type} (ek : κ → Value) (ok : κ → Prop) (b : Nat) (M : List (κ × Value)) : Prop :=
 ∃ es clock, w.heap[b]? = some (.map es clock) ∧ Stamped es clock ∧ (es.toList.map fun e => (e.key, e.val)).Perm (M.map fun p => (ek p.1, p.2)) ∧ ∀ p ∈ M, ok p.1
section
variable {P : Program} {k : TypeId} {κ : Type} {ek : κ → Value} {ok : κ → Prop} {w : World} {b : Nat} {M : List (κ × Value)}
theorem mapP_made (w : World) (ek : κ → Value) (ok : κ → Prop) : mapP (w.alloc (.map #[] 0)) ek ok w.heap.size [] :=
 ⟨#[], 0, blk_new w _, stamped_empty 0, List.Perm.refl _, fun _ h => by cases h⟩
theorem mapP.lt (h : mapP w ek ok b M) : b < w.heap.size := by obtain ⟨_, _, hb, _⟩ := h; exact lt_of_block hb
theorem mapP.kept {w' : World} (h : mapP w ek ok b M) (hb : w'.heap[b]? = w.heap[b]?) : mapP w' ek ok b M := by
 obtain ⟨es, c, h1, h2⟩ := h; exact ⟨es, c, hb.trans h1, h2⟩
theorem mapP.off {S : Nat → Prop} {w' : World} (h : mapP w ek ok b M) (ho : Off S w w') (hs : ¬ S b) : mapP w' ek ok b M := h.kept (ho.block b h.lt hs)
theorem mapP.below {B : Nat} {w' : World} (h : mapP w ek ok b M) (ho : Below B w w') (hs : b < B) : mapP w' ek ok b M := h.kept (ho.block b hs)
theorem mapP.oks (h : mapP w ek ok b M) : ∀ p ∈ M, ok p.1 := by obtain ⟨_, _, _, _, _, h4⟩ := h; exact h4
theorem mapP.nodup (h : mapP w ek ok b M) : (M.map (·.1)).Nodup := by
 obtain ⟨es, c, h1, ⟨_, _, hn⟩, h3, h4⟩ := h
 have h5 := h3.map Prod.fst
 simp only [List.map_map, Function.comp_def] at h5
 have h6 : (M.map fun p => ek p.1).Nodup := (h5.nodup_iff).1 hn
 have h7 : ((M.map (·.1)).map ek).Nodup := by simpa [List.map_map, Function.comp_def] using h6
 exact (List.pairwise_map.1 h7).imp fun h e => h (by rw [e])
theorem es_reads (K : KeyE P k ek ok) {es : Array MapEntry} (h3 : (es.toList.map fun e => (e.key, e.val)).Perm (M.map fun p => (ek p.1, p.2))) (h4 : ∀ p ∈ M, ok p.1) : ∀ e ∈ es.toList, ∃ l, keyOf P k e.key = some l := by
 intro e he
 have : (e.key, e.val) ∈ M.map fun p => (ek p.1, p.2) := h3.mem_iff.1 (List.mem_map.2 ⟨e, he, rfl⟩)
 obtain ⟨p, hp, hq⟩ := List.mem_map.1 this
 obtain ⟨l, hl⟩ := K.reads p.1 (h4 p hp)
 exact ⟨l, by rw [← (Prod.mk.inj hq).1]; exact hl⟩
theorem mapP.hit (K : KeyE P k ek ok) {t e : TypeId} (ht : P.underlying t = some (.map k e)) (h : mapP w ek ok b M) {x : κ} {v : Value} (hx : (x, v) ∈ M) (c : Bool) :
 (Instr.lookup t (.map (some b)) (ek x) c).run P w = .ok (if c then .tuple #[v, .bool true] else v) w := by
 have hnd := h.nodup
 obtain ⟨es, clock, hb, hS, h3, h4⟩ := h
 obtain ⟨l, hl⟩ := K.reads x (h4 _ hx)
 have hmem : ∃ e0 ∈ es.toList, e0.key = ek x ∧ e0.val = v := by
  have : (ek x, v) ∈ es.toList.map fun e => (e.key, e.val) := h3.mem_iff.2 (List.mem_map.2 ⟨_, hx, rfl⟩)
  obtain ⟨e0, he, hq⟩ := List.mem_map.1 this
  exact ⟨e0, he, (Prod.mk.inj hq).1, (Prod.mk.inj hq).2⟩
 obtain ⟨e0, he0, hk0, hv0⟩ := hmem
 rcases K.keyed.find w hl es.toList (es_reads K h3 h4) with ⟨h1, h2⟩ | ⟨j, e1, h1, h2, hk1⟩
 · exact absurd hk0 (h2 e0 he0)
 · have : e1 = e0 := by
    have hn := hS.2.2
    have he1 : e1 ∈ es.toList := List.mem_of_getElem? h2
    obtain ⟨i, hi, rfl⟩ := List.getElem_of_mem he0
    obtain ⟨i', hi', rfl⟩ := List.getElem_of_mem he1
    have hij : i' = i := by
     have h5 : (es.toList.map (·.key))[i']'(by simpa using hi') = (es.toList.map (·.key))[i]'(by simpa using hi) := by
      rw [List.getElem_map, List.getElem_map, hk0, hk1]
     exact (List.getElem_inj hn).1 h5
    subst hij; rfl
   subst this
   simp [Instr.lookup, run_underlying ht, MapKept.run_getObj_map hb, K.keyed.check w _ hl, h1, hv0, Result.andThen]
theorem mapP.miss (K : KeyE P k ek ok) {t e : TypeId} (ht : P.underlying t = some (.map k e)) (h : mapP w ek ok b M) {x : κ} {z : Value} (hx : ∀ p ∈ M, p.1 ≠ x) (hok : ok x) (hz : (zeroValue e).run P w = .ok z w) (c : Bool) :
 (Instr.lookup t (.map (some b)) (ek x) c).run P w = .ok (if c then .tuple #[z, .bool false] else z) w := by
 obtain ⟨es, clock, hb, hS, h3, h4⟩ := h
 obtain ⟨l, hl⟩ := K.reads x hok
 rcases K.keyed.find w hl es.toList (es_reads K h3 h4) with ⟨h1, h2⟩ | ⟨j, e1, h1, h2, hk1⟩
 · simp [Instr.lookup, run_underlying ht, MapKept.run_getObj_map hb, K.keyed.check w _ hl, h1, hz, Result.andThen]
 · have he1 : e1 ∈ es.toList := List.mem_of_getElem? h2
   have : (e1.key, e1.val) ∈ M.map fun p => (ek p.1, p.2) := h3.mem_iff.1 (List.mem_map.2 ⟨e1, he1, rfl⟩)
   obtain ⟨p, hp, hq⟩ := List.mem_map.1 this
   exact absurd (K.inj _ _ ((Prod.mk.inj hq).1.trans hk1)) (hx p hp)
theorem split_hit [DecidableEq κ] {x : κ} {v : Value} : ∀ {M : List (κ × Value)}, (M.map (·.1)).Nodup → (x, v) ∈ M → M.Perm ((x, v) :: M.filter fun p => decide (p.1 ≠ x))
 | [], _, h => by cases h
 | q :: M, hn, h => by
   simp only [List.map_cons, List.nodup_cons] at hn
   rcases List.mem_cons.1 h with rfl | h'
   · have : M.filter (fun p => decide (p.1 ≠ x)) = M := List.filter_eq_self.2 fun p hp => by
      have : p.1 ≠ x := fun e => hn.1 (by rw [← e]; exact List.mem_map.2 ⟨p, hp, rfl⟩)
      simpa using this
     rw [List.filter_cons, if_neg (by simp), this]
   · have hq : q.1 ≠ x := fun e => hn.1 (by rw [e]; exact List.mem_map.2 ⟨_, h', rfl⟩)
     rw [List.filter_cons, if_pos (by simpa using hq)]
     exact ((split_hit hn.2 h').cons q).trans (List.Perm.swap _ _ _)
theorem off_setBlock {S : Nat → Prop} (w : World) (b : Nat) (o : Obj) (hs : S b) : Off S w (setBlock w b o) :=
 ⟨rfl, rfl, rfl, by simp [setBlock], fun k _ h => by
  have : k ≠ b := fun e => h (by rw [e]; exact hs)
  simp [setBlock, Array.getElem?_setIfInBounds, Ne.symm this]⟩
theorem setBlock_self (w : World) (b : Nat) (o : Obj) (hb : b < w.heap.size) : (setBlock w b o).heap[b]? = some o := by
 simp [setBlock, Array.getElem?_setIfInBounds, hb]
def putM [DecidableEq κ] (x : κ) (v : Value) (M : List (κ × Value)) : List (κ × Value) := (x, v) :: M.filter fun p => decide (p.1 ≠ x)
theorem mapP.update [DecidableEq κ] (K : KeyE P k ek ok) {t e : TypeId} (ht : P.underlying t = some (.map k e)) (h : mapP w ek ok b M) (x : κ) (v : Value) (hok : ok x) :
 ∃ es' clock', (Instr.mapUpdate t (.map (some b)) (ek x) v).run P w = .ok () (setBlock w b (.map es' clock')) ∧ mapP (setBlock w b (.map es' clock')) ek ok b (putM x v M) := by
 have hlt := h.lt
 have hnd := h.nodup
 obtain ⟨es, clock, hb, hS, h3, h4⟩ := h
 obtain ⟨l, hl⟩ := K.reads x hok
 have hok' : ∀ p ∈ putM x v M, ok p.1 := fun p hp => by
  rcases List.mem_cons.1 hp with rfl | hp
  · exact hok
  · exact h4 p (List.mem_filter.1 hp).1
 rcases K.keyed.find w hl es.toList (es_reads K h3 h4) with ⟨h1, h2⟩ | ⟨j, e0, h1, h2, hk0⟩
 · refine ⟨es.push ⟨ek x, v, clock⟩, clock + 1, ?_, es.push ⟨ek x, v, clock⟩, clock + 1, setBlock_self w b _ hlt, stamped_push hS h2, ?_, hok'⟩
   · simp [Instr.mapUpdate, run_underlying ht, MapKept.run_getObj_map hb, K.keyed.check w false hl, h1, MapKept.run_setObj_map _ hb, Result.andThen, setBlock]
   · have hno : M.filter (fun p => decide (p.1 ≠ x)) = M := List.filter_eq_self.2 fun p hp => by
      have : p.1 ≠ x := fun e1 => by
       have : (ek p.1, p.2) ∈ es.toList.map fun e => (e.key, e.val) := h3.mem_iff.2 (List.mem_map.2 ⟨p, hp, rfl⟩)
       obtain ⟨e2, he2, hq⟩ := List.mem_map.1 this
       exact h2 e2 he2 (by rw [← e1]; exact (Prod.mk.inj hq).1)
      simpa using this
     unfold putM
     rw [hno, Array.toList_push, List.map_append, List.map_singleton]
     exact (List.perm_append_singleton _ _).trans (h3.cons _)
 · have hj : es[j]? = some e0 := by simpa using h2
   have hlist : (es.modify j (fun e' => { e' with key := ek x, val := v })).toList = es.toList.set j { e0 with key := ek x, val := v } := by rw [Array.toList_modify, modify_eq_set _ _ _ _ h2]
   have hkeyf : ∀ e', es[j]? = some e' → ({ e' with key := ek x, val := v } : MapEntry).key = e'.key := fun e' he' => by rw [hj] at he'; cases he'; exact hk0.symm
   refine ⟨es.modify j (fun e' => { e' with key := ek x, val := v }), clock, ?_, es.modify j (fun e' => { e' with key := ek x, val := v }), clock, setBlock_self w b _ hlt, stamped_modify hS _ _ (fun _ _ => rfl) (fun e' _ he' => hkeyf e' he'), ?_, hok'⟩
   · simp [Instr.mapUpdate, run_underlying ht, MapKept.run_getObj_map hb, K.keyed.check w false hl, h1, hj, hk0, K.keyed.stays w hl, MapKept.run_setObj_map _ hb, Result.andThen, setBlock]
   · rw [hlist, List.map_set]
     have hjl : j < es.toList.length := (List.getElem?_eq_some_iff.1 h2).1
     have hm : (ek x, e0.val) ∈ M.map fun p => (ek p.1, p.2) := h3.mem_iff.1 (List.mem_map.2 ⟨e0, List.mem_of_getElem? h2, by rw [hk0]⟩)
     obtain ⟨q, hq, hq2⟩ := List.mem_map.1 hm
     have hqx : q = (x, e0.val) := Prod.ext (K.inj _ _ (Prod.mk.inj hq2).1) (Prod.mk.inj hq2).2
     subst hqx
     have hp1 := split_hit hnd hq
     have hp2 : (es.toList.map fun e => (e.key, e.val)).Perm ((ek x, e0.val) :: (es.toList.map fun e => (e.key, e.val)).eraseIdx j) := by
      have := set_perm (es.toList.map fun e => (e.key, e.val)) j (by simpa using hjl) ((es.toList.map fun e => (e.key, e.val))[j]'(by simpa using hjl))
      rw [List.set_getElem_self] at this
      have he : (es.toList.map fun e => (e.key, e.val))[j]'(by simpa using hjl) = (ek x, e0.val) := by
       have := (List.getElem?_eq_some_iff.1 h2).2
       rw [List.getElem_map, this, hk0]
      rw [he] at this
      exact this
     have hp3 := (hp2.symm.trans (h3.trans (hp1.map _)))
     simp only [List.map_cons] at hp3
     have hp4 := (List.perm_cons _).1 hp3
     refine (set_perm _ _ (by simpa using hjl) _).trans ?_
     simp only [putM, List.map_cons]
     exact hp4.cons _
end
section
variable {P : Program} {k e : TypeId} {κ : Type} {ek : κ → Value} {ok : κ → Prop} {w : World} {b : Nat} {M : List (κ × Value)} {ops : Array Oper} {rest : List Oper} {o : Oper} {a : Act} {Q : Exit → Act → World → Prop}
theorem wpList_put [DecidableEq κ] (K : KeyE P k ek ok) (hg : o.guard = none) (m x v : Operand) (t : TypeId) (hop : o.op = Op.mapUpdate t m x v) (ht : P.underlying t = some (.map k e)) (hm : a.eval m = .map (some b)) (hown : mapP w ek ok b M)
 (key : κ) (val : Value) (hx : a.eval x = ek key) (hv : a.eval v = val) (hok : ok key) (hK : ∀ w', mapP w' ek ok b (putM key val M) → Off (· = b) w w' → wpList P ops Q rest (a.put o.dst undef) w') : wpList P ops Q (o :: rest) a w := by
 refine wpList_plain hg fun K' hK' => ?_
 obtain ⟨es', clock', hrun, hmap⟩ := hown.update K ht key val hok
 unfold Oper.wp
 simp [execOp, hop, hm, hx, hv, hrun, Result.andThen]
 exact hK' _ _ (hK _ hmap (off_setBlock w b _ rfl))
end
end Go.Proofs.Ytopkmjiilnoeeaa.B
