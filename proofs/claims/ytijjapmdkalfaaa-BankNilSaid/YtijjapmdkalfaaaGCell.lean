/- A bank's blocks: the bank, its room of eight pointers, its timers. -/
import Derived.Test.YtijjapmdkalfaaaGPlain
namespace Go.Proofs.Ytijjapmdkalfaaa.B
set_option linter.unusedVariables false
set_option linter.unusedSimpArgs false
open Go.ChangeShapes Go.WideShapes Go.RowKit Go.Sort
abbrev tBk : TypeId := 57
abbrev tRm : TypeId := 74
def ptr (k : Nat) : Value := .pointer (some ⟨k, 0, none⟩)
/-- The room: pointers to the timers, nil behind them. -/
def rm (n : Nat) (q : Nat → Nat) : List Value := (List.range 8).map fun i => if i < n then ptr (q i) else .pointer none
theorem rm_len (n : Nat) (q : Nat → Nat) : (rm n q).length = 8 := by simp [rm]
theorem rm_get (n : Nat) (q : Nat → Nat) (i : Nat) (h : i < n) (h8 : n ≤ 8) : (rm n q)[i]? = some (ptr (q i)) := by simp [rm, show i < 8 by omega, h]
theorem rm_zero (q : Nat → Nat) : rm 0 q = [.pointer none, .pointer none, .pointer none, .pointer none, .pointer none, .pointer none, .pointer none, .pointer none] := rfl
theorem rm_set (n : Nat) (q : Nat → Nat) (r : Nat) (h : n < 8) : (rm n q).set n (ptr r) = rm (n + 1) (fun i => if i = n then r else q i) := by
  apply List.ext_getElem?
  intro i
  rw [List.getElem?_set]
  by_cases e : n = i
  · subst e
    rw [if_pos rfl, if_pos (by rw [rm_len]; exact h), rm_get _ _ _ (by omega) (by omega)]
    simp
  · rw [if_neg e]
    by_cases h8 : i < 8
    · unfold rm
      simp only [List.getElem?_map, List.getElem?_range h8, Option.map_some]
      by_cases hi : i < n
      · rw [if_pos hi, if_pos (by omega), if_neg (fun x => e x.symm)]
      · rw [if_neg hi, if_neg (by omega)]
    · rw [List.getElem?_eq_none (by rw [rm_len]; omega), List.getElem?_eq_none (by rw [rm_len]; omega)]
/-- Timers in a room. -/
structure RmAt (w : World) (g n : Nat) (q : Nat → Nat) (t : Nat → Tm) : Prop where
  room : w.heap[g]? = some (.cells (rm n q).toArray tRm (0, 0))
  tms : ∀ i, i < n → TAt w (q i) tC (t i)
  ok : ∀ i, i < n → (t i).ok
  one : ∀ i j, i < n → j < n → q i = q j → i = j
  n8 : n ≤ 8
/-- A bank. -/
structure BkAt (w : World) (p g n : Nat) (q : Nat → Nat) (t : Nat → Tm) : Prop where
  cell : w.heap[p]? = some (.cells #[.slice (some ⟨g, 0, none⟩) n n] tBk (0, 0))
  rm : RmAt w g n q t
/-- Blocks of the timers. -/
def own (n : Nat) (q : Nat → Nat) (k : Nat) : Prop := ∃ i, i < n ∧ k = q i
section
variable {w w' : World} {p g n : Nat} {q : Nat → Nat} {t s : Nat → Tm}
theorem RmAt.lt (h : RmAt w g n q t) : g < w.heap.size := lt_of_block h.room
theorem RmAt.ltq (h : RmAt w g n q t) {i : Nat} (hi : i < n) : q i < w.heap.size := (h.tms i hi).lt
theorem RmAt.gne (h : RmAt w g n q t) {i : Nat} (hi : i < n) : q i ≠ g := apart_types (h.tms i hi) h.room rfl
theorem RmAt.below (h : RmAt w g n q t) (hb : Below w.heap.size w w') : RmAt w' g n q t :=
  ⟨blk_below hb h.room h.lt, fun i hi => (h.tms i hi).below hb, h.ok, h.one, h.n8⟩
theorem RmAt.off {S : Nat → Prop} (h : RmAt w g n q t) (ho : Off S w w') (hg : ¬ S g) (hq : ∀ i, i < n → ¬ S (q i)) : RmAt w' g n q t :=
  ⟨ho.at h.room hg, fun i hi => (h.tms i hi).off ho (hq i hi), h.ok, h.one, h.n8⟩
theorem RmAt.congr (h : RmAt w g n q t) (hs : ∀ i, i < n → t i = s i) : RmAt w g n q s :=
  ⟨h.room, fun i hi => by rw [← hs i hi]; exact h.tms i hi, fun i hi => by rw [← hs i hi]; exact h.ok i hi, h.one, h.n8⟩
/-- One timer has turned. -/
theorem RmAt.turn (h : RmAt w g n q t) {i : Nat} {x : Tm} (hi : i < n) (a : TAt w' (q i) tC x) (ox : x.ok) (ho : Off (· = q i) w w') : RmAt w' g n q (upd1 t i x) :=
  ⟨ho.at h.room (fun e => h.gne hi e.symm), fun k hk => by
    by_cases e : k = i
    · subst e; rw [upd1_at]; exact a
    · rw [upd1_ne _ _ e]; exact (h.tms k hk).off ho (fun e2 => e (h.one k i hk hi e2)), fun k hk => by
    by_cases e : k = i
    · subst e; rw [upd1_at]; exact ox
    · rw [upd1_ne _ _ e]; exact h.ok k hk, h.one, h.n8⟩
theorem RmAt.cell (h : RmAt w g n q t) {i : Nat} (hi : i < n) : w.cell? ⟨g, i, none⟩ = some (.pointer (some ⟨q i, 0, none⟩)) := by
  rw [blk_cell h.room i]
  simpa [ptr] using rm_get n q i hi h.n8
theorem BkAt.ltp (h : BkAt w p g n q t) : p < w.heap.size := lt_of_block h.cell
theorem BkAt.c0 (h : BkAt w p g n q t) : w.cell? ⟨p, 0, none⟩ = some (.slice (some ⟨g, 0, none⟩) n n) := by rw [blk_cell h.cell 0]; rfl
theorem BkAt.pne (h : BkAt w p g n q t) {i : Nat} (hi : i < n) : q i ≠ p := apart_types (h.rm.tms i hi) h.cell rfl
theorem BkAt.below (h : BkAt w p g n q t) (hb : Below w.heap.size w w') : BkAt w' p g n q t := ⟨blk_below hb h.cell h.ltp, h.rm.below hb⟩
theorem BkAt.off {S : Nat → Prop} (h : BkAt w p g n q t) (ho : Off S w w') (hp : ¬ S p) (hg : ¬ S g) (hq : ∀ i, i < n → ¬ S (q i)) : BkAt w' p g n q t := ⟨ho.at h.cell hp, h.rm.off ho hg hq⟩
theorem BkAt.congr (h : BkAt w p g n q t) (hs : ∀ i, i < n → t i = s i) : BkAt w p g n q s := ⟨h.cell, h.rm.congr hs⟩
theorem BkAt.turn (h : BkAt w p g n q t) {i : Nat} {x : Tm} (hi : i < n) (a : TAt w' (q i) tC x) (ox : x.ok) (ho : Off (· = q i) w w') : BkAt w' p g n q (upd1 t i x) :=
  ⟨ho.at h.cell (fun e => h.pne hi e.symm), h.rm.turn hi a ox ho⟩
theorem BkAt.get (h : BkAt w p g n q t) {i : Nat} (hi : i < n) : w.cell? ⟨g, i, none⟩ = some (.pointer (some ⟨q i, 0, none⟩)) := h.rm.cell hi
theorem BkAt.free (h : BkAt w p g n q t) (j : Nat) : w.frozen? ⟨g, j, none⟩ = false := blk_free h.rm.room j
end
theorem Off.own {n : Nat} {q : Nat → Nat} {i : Nat} (hi : i < n) {w w' : World} (h : Off (· = q i) w w') : Off (own n q) w w' := h.mono fun k _ e => ⟨i, hi, e⟩
/-- All are above a place. -/
theorem own_below {B n : Nat} {q : Nat → Nat} {w a b : World} (h : Below B w a) (ho : Off (own n q) a b) (hq : ∀ i, i < n → B ≤ q i) (hB : B ≤ w.heap.size) : Below B w b :=
  Off.toBelow h ho (fun k hk ⟨i, hi, e⟩ => by have := hq i hi; omega) hB
end Go.Proofs.Ytijjapmdkalfaaa.B
