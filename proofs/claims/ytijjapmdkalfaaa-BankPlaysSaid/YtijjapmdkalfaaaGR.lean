/- The document's timers in a row: a slice of structs of eight cells. -/
import Derived.Test.YtijjapmdkalfaaaGPlain
import Derived.Laws.AppendOwn
import Derived.Laws.OwnMore
import Derived.OwnWalk
import Derived.Great.BuildSlice
namespace Go.Proofs.Ytijjapmdkalfaaa.B
set_option linter.unusedVariables false
set_option linter.unusedSimpArgs false
open Go.ChangeShapes Go.WideShapes Go.RowKit Go.Sort
abbrev tMs : TypeId := 28
theorem rl_len (t : Tm) : (rl t).length = 8 := rfl
theorem rl_one (t : Tm) : ∀ x ∈ rl t, x.oneCell' = true := r8_one _ _ _ _ _ _ _ _
/-- A timer's cells lie in a block from a place on. -/
def InAt (w : World) (g o : Nat) (s : Tm) : Prop := ∃ cur t fr, w.heap[g]? = some (.cells cur t fr) ∧ PartAt cur o (rl s)
theorem InAt.cell {w : World} {g o : Nat} {s : Tm} (h : InAt w g o s) (j : Nat) (v : Value) (hj : (rl s)[j]? = some v) : w.cell? ⟨g, o + j, none⟩ = some v := by
  obtain ⟨cur, t, fr, h1, h2⟩ := h
  rw [cell_of_row w g (o + j) cur t fr h1]
  exact h2 j v hj
theorem InAt.below {w w' : World} {g o : Nat} {s : Tm} (h : InAt w g o s) (hb : Below w.heap.size w w') : InAt w' g o s := by
  obtain ⟨cur, t, fr, h1, h2⟩ := h
  exact ⟨cur, t, fr, blk_below hb h1 (lt_of_block h1), h2⟩
theorem InAt.lt {w : World} {g o : Nat} {s : Tm} (h : InAt w g o s) : g < w.heap.size := by
  obtain ⟨cur, t, fr, h1, h2⟩ := h
  exact lt_of_block h1
/-- A row of n timers. -/
structure RwAt (w : World) (g n cap : Nat) (t : Nat → Tm) : Prop where
  row : ∃ cur, w.heap[g]? = some (.cells cur tM (0, 0)) ∧ cur.size = cap * 8 ∧ ∀ i, i < n → PartAt cur (i * 8) (rl (t i))
  nc : n ≤ cap
  cm : cap ≤ maxLen
section
variable {w w' : World} {g n cap B : Nat} {t s : Nat → Tm}
theorem RwAt.lt (h : RwAt w g n cap t) : g < w.heap.size := by obtain ⟨cur, h1, _⟩ := h.row; exact lt_of_block h1
theorem RwAt.below (h : RwAt w g n cap t) (hb : Below w.heap.size w w') : RwAt w' g n cap t := by
  obtain ⟨cur, h1, h2, h3⟩ := h.row
  exact ⟨⟨cur, blk_below hb h1 h.lt, h2, h3⟩, h.nc, h.cm⟩
theorem RwAt.off {S : Nat → Prop} (h : RwAt w g n cap t) (ho : Off S w w') (hs : ¬ S g) : RwAt w' g n cap t := by
  obtain ⟨cur, h1, h2, h3⟩ := h.row
  exact ⟨⟨cur, ho.at h1 hs, h2, h3⟩, h.nc, h.cm⟩
theorem RwAt.congr (h : RwAt w g n cap t) (hs : ∀ i, i < n → t i = s i) : RwAt w g n cap s := by
  obtain ⟨cur, h1, h2, h3⟩ := h.row
  exact ⟨⟨cur, h1, h2, fun i hi => by rw [← hs i hi]; exact h3 i hi⟩, h.nc, h.cm⟩
theorem RwAt.at (h : RwAt w g n cap t) {i : Nat} (hi : i < n) : InAt w g (i * 8) (t i) := by
  obtain ⟨cur, h1, h2, h3⟩ := h.row
  exact ⟨cur, _, _, h1, h3 i hi⟩
theorem RwAt.free (h : RwAt w g n cap t) (j : Nat) : w.frozen? ⟨g, j, none⟩ = false := by
  obtain ⟨cur, h1, _⟩ := h.row
  exact blk_free h1 j
theorem RwAt.c (h : RwAt w g n cap t) {i : Nat} (hi : i < n) (j : Nat) (v : Value) (hj : (rl (t i))[j]? = some v) : w.cell? ⟨g, i * 8 + j, none⟩ = some v := (h.at hi).cell j v hj
/-- Blocks of other types are other blocks. -/
theorem RwAt.ne {b : Nat} {x : Array Value} {T : TypeId} {f : Nat × Nat} (h : RwAt w g n cap t) (hb : w.heap[b]? = some (.cells x T f)) (hne : (T == tM) = false) : g ≠ b := by
  obtain ⟨cur, h1, _⟩ := h.row
  rintro rfl
  rw [h1] at hb
  cases hb
  simp at hne
end
/-- A row that is being made: what it holds, by its cells. -/
def OutAt (w : World) (B : Nat) (v : Value) (k : Nat) (t : Nat → Tm) : Prop := ∃ xs, w.ownsRow B tM 8 v k xs ∧ ∀ i, i < k → ∀ j u, (rl (t i))[j]? = some u → xs[i * 8 + j]? = some u
theorem out_nil (w : World) (B : Nat) (t : Nat → Tm) : OutAt w B (.slice none 0 0) 0 t := ⟨[], World.ownsRow_nil w B tM 8, fun i hi => by omega⟩
theorem own_kept {w w' : World} {B : Nat} {e : TypeId} {z : Nat} {v : Value} {n : Nat} {xs : List Value} (h : w.ownsRow B e z v n xs) (hb : Below w.heap.size w w') : w'.ownsRow B e z v n xs := by
  refine ⟨h.1, ?_⟩
  rcases h.2 with h | ⟨g, cap, cur, h1, h2, h3, h4⟩
  · exact .inl h
  · exact .inr ⟨g, cap, cur, h1, h2, blk_below hb h3 (lt_of_block h3), h4⟩
theorem OutAt.below {w w' : World} {B : Nat} {v : Value} {k : Nat} {t : Nat → Tm} (h : OutAt w B v k t) (hb : Below w.heap.size w w') : OutAt w' B v k t := by
  obtain ⟨xs, h1, h2⟩ := h
  exact ⟨xs, own_kept h1 hb, h2⟩
theorem OutAt.congr {w : World} {B : Nat} {v : Value} {k : Nat} {t s : Nat → Tm} (h : OutAt w B v k t) (hs : ∀ i, i < k → t i = s i) : OutAt w B v k s := by
  obtain ⟨xs, h1, h2⟩ := h
  exact ⟨xs, h1, fun i hi j u hu => h2 i hi j u (by rw [hs i hi]; exact hu)⟩
/-- One more at its end. -/
theorem out_push {w' : World} {B : Nat} {v' : Value} {k : Nat} {t : Nat → Tm} {xs : List Value} (hl : xs.length = k * 8) (h2 : ∀ i, i < k → ∀ j u, (rl (t i))[j]? = some u → xs[i * 8 + j]? = some u) {x : Tm} (hx : t k = x)
    (h1 : w'.ownsRow B tM 8 v' (k + 1) (xs ++ rl x)) : OutAt w' B v' (k + 1) t := by
  subst hx
  refine ⟨_, h1, fun i hi j u hu => ?_⟩
  have hj : j < 8 := by have := (List.getElem?_eq_some_iff.1 hu).1; rw [rl_len] at this; exact this
  by_cases e : i = k
  · subst e
    rw [List.getElem?_append_right (by omega), hl, show i * 8 + j - i * 8 = j by omega]
    exact hu
  · rw [List.getElem?_append_left (by rw [hl]; omega)]
    exact h2 i (by omega) j u hu
/-- Made, it is a row. -/
theorem OutAt.rw {w : World} {B : Nat} {v : Value} {k : Nat} {t : Nat → Tm} (h : OutAt w B v k t) (h0 : 0 < k) : ∃ g cap, v = .slice (some ⟨g, 0, none⟩) k cap ∧ B ≤ g ∧ RwAt w g k cap t := by
  obtain ⟨xs, ⟨hl, ho⟩, h2⟩ := h
  rcases ho with ⟨_, hk⟩ | ⟨g, cap, cur, rfl, hB, hg, hkc, hcm, hcs, htk⟩
  · omega
  · refine ⟨g, cap, rfl, hB, ⟨⟨cur, hg, hcs, fun i hi j u hu => ?_⟩, hkc, hcm⟩⟩
    have h3 := h2 i hi j u hu
    rw [← htk, List.getElem?_take] at h3
    split at h3
    · simpa using h3
    · cases h3
theorem RwAt.out {w : World} {g n cap B : Nat} {t : Nat → Tm} (h : RwAt w g n cap t) (hB : B ≤ g) : OutAt w B (.slice (some ⟨g, 0, none⟩) n cap) n t := by
  obtain ⟨cur, h1, h2, h3⟩ := h.row
  have hnc := h.nc
  refine ⟨cur.toList.take (n * 8), ⟨by simp; omega, .inr ⟨g, cap, cur, rfl, hB, h1, hnc, h.cm, h2, rfl⟩⟩, fun i hi j u hu => ?_⟩
  have hj : j < 8 := by have := (List.getElem?_eq_some_iff.1 hu).1; rw [rl_len] at this; exact this
  rw [List.getElem?_take, if_pos (by omega)]
  simpa using h3 i hi j u hu
/-- What an append leaves as it was. -/
theorem Off.ofOwn {w w' : World} {v : Value} (h : w.grownBy w' v.ownBlock) : Off (fun k => v.ownBlock = some k) w w' := Off.ofGrown h fun k e => e
theorem OutAt.block {w : World} {B : Nat} {v : Value} {k : Nat} {t : Nat → Tm} (h : OutAt w B v k t) {b : Nat} (hb : v.ownBlock = some b) : B ≤ b := by
  obtain ⟨xs, h1, _⟩ := h
  exact (h1.lt b hb).1
section
variable {ops : Array Oper} {rest : List Oper} {o : Oper} {a : Act} {w : World} {Q : Exit → Act → World → Prop}
theorem loadR (hgd : o.guard = none) (x : Operand) (ho : o.op = .load 48 x) {g off : Nat} (hx : a.eval x = .pointer (some ⟨g, off, none⟩)) {t : Tm} (hg : InAt w g off t)
    (h : wpList Try.prog ops Q rest (a.put o.dst (.agg (rl t).toArray)) w) : wpList Try.prog ops Q (o :: rest) a w := by
  obtain ⟨cur, ty, fr, h1, h2⟩ := hg
  exact wpList_load_part hgd _ x ho g off hx _ (rl t) h1 Try.underlying48 rfl iM h2 h
theorem loadRg (x : Operand) (ho : o.op = .load 48 x) (hw : Region.wanted o (yielded ops a.tmps) = true) {g off : Nat} (hx : a.eval x = .pointer (some ⟨g, off, none⟩)) {t : Tm} (hg : InAt w g off t)
    (h : wpList Try.prog ops Q rest (a.put o.dst (.agg (rl t).toArray)) w) : wpList Try.prog ops Q (o :: rest) a w := by
  obtain ⟨cur, ty, fr, h1, h2⟩ := hg
  exact wpList_load_part_g _ x ho hw g off hx _ (rl t) h1 Try.underlying48 rfl iM h2 h
end
theorem infoM : (Try.prog.info? 48).map (fun i => (i.zero, i.size, i.bytes)) = some (some (.agg (rl tz).toArray), 8, 24) := by kernel_rfl
theorem inNew (w : World) (s : Tm) : InAt (w.alloc (oM s)) w.heap.size 0 s := ⟨_, _, _, blk_new w (oM s), part_all _⟩
section
variable {ops : Array Oper} {rest : List Oper} {o : Oper} {a : Act} {w : World} {Q : Exit → Act → World → Prop}
/-- '[]C{x}' as an append's row. -/
theorem buildR (hgd : o.guard = none) (x : Operand) (ho : o.op = .buildSlice 28 1 #[(0, x)]) {s : Tm} (hx : a.eval x = .agg (rl s).toArray)
    (h : wpList Try.prog ops Q rest (a.put o.dst (.slice (some ⟨w.heap.size, 0, none⟩) 1 1)) (w.alloc (oM s))) : wpList Try.prog ops Q (o :: rest) a w := by
  obtain ⟨i0, hi, hz0, hz1, hz2⟩ := info_parts infoM
  refine wpList_buildSlice hgd _ 48 1 #[(0, x)] ho (rl s).toArray i0 _ Try.underlying28 hi hz0 (by rw [hz1]; decide) (by rw [hz1]; decide) ?_ h
  rw [hz1]
  simp only [List.map_toArray, List.map_cons, List.map_nil, hx]
  rw [show Array.range (1 * 8) = #[0, 1, 2, 3, 4, 5, 6, 7] by decide]
  simp [Instr.fill, Value.cells, rl, r8]
/-- One timer more. -/
theorem appendR (hgd : o.guard = none) (s x : Operand) (ho : o.op = .call { callee := .builtin .append, args := #[s, x], argTypes := #[28, 28] })
    {B k g : Nat} {v : Value} {t : Nat → Tm} {y : Tm} (hs : a.eval s = v) (hO : OutAt w B v k t) (hx : a.eval x = .slice (some ⟨g, 0, none⟩) 1 1) (hy : InAt w g 0 y) (hyt : t k = y) (hk : k < 8) (hB : B ≤ w.heap.size)
    (h : ∀ v' w', OutAt w' B v' (k + 1) t → Off (fun b => v.ownBlock = some b) w w' → wpList Try.prog ops Q rest (a.put o.dst v') w') : wpList Try.prog ops Q (o :: rest) a w := by
  obtain ⟨i0, hi, hz0, hz1, hz2⟩ := info_parts infoM
  obtain ⟨xs, h1, h2⟩ := hO
  refine wpList_append_own w hgd s x _ ho B 48 i0 _ 8 24 Try.underlying28 hi hz0 hz1 hz2 rfl (by decide) v k xs hs h1 ⟨g, 0, none⟩ 1 1 (rl y) hx rfl (fun j u hu => ?_) (rl_one y) (by unfold maxLen; omega) (by omega) hB fun v' w' h3 h4 _ => ?_
  · have := hy.cell j u hu
    simpa [Addr.add_lit] using this
  · exact h v' w' (out_push h1.1 h2 hyt h3) (Off.ofOwn h4)
/-- All of another row. -/
theorem appendAllR (hgd : o.guard = none) (s x : Operand) (ho : o.op = .call { callee := .builtin .append, args := #[s, x], argTypes := #[28, 28] })
    {B g n cap : Nat} {v : Value} {t : Nat → Tm} (hs : a.eval s = v) (hO : w.ownsRow B 48 8 v 0 []) (hx : a.eval x = .slice (some ⟨g, 0, none⟩) n cap) (hR : RwAt w g n cap t) (hn : n ≤ 8) (hB : B ≤ w.heap.size)
    (h : ∀ v' w', OutAt w' B v' n t → Off (fun b => v.ownBlock = some b) w w' → wpList Try.prog ops Q rest (a.put o.dst v') w') : wpList Try.prog ops Q (o :: rest) a w := by
  obtain ⟨i0, hi, hz0, hz1, hz2⟩ := info_parts infoM
  obtain ⟨cur, h1, h2, h3⟩ := hR.row
  have hnc := hR.nc
  have key : ∀ (j : Nat) (u : Value), (cur.toList.take (n * 8))[j]? = some u → cur[j]? = some u ∧ u.oneCell' = true := by
    intro j u hu
    rw [List.getElem?_take] at hu
    split at hu
    · rename_i hj
      have hu' : cur[j]? = some u := by simpa using hu
      refine ⟨hu', ?_⟩
      have hj8 : j % 8 < (rl (t (j / 8))).length := by rw [rl_len]; omega
      have h4 := h3 (j / 8) (by omega) (j % 8) _ (List.getElem?_eq_getElem hj8)
      rw [show j / 8 * 8 + j % 8 = j by omega, hu'] at h4
      cases h4
      exact rl_one _ _ (List.getElem_mem hj8)
    · cases hu
  refine wpList_append_own w hgd s x _ ho B 48 i0 _ 8 24 Try.underlying28 hi hz0 hz1 hz2 rfl (by decide) v 0 [] hs hO ⟨g, 0, none⟩ n cap (cur.toList.take (n * 8)) hx (by simp; omega) (fun j u hu => ?_) (fun u hu => ?_) (by unfold maxLen; omega) (by omega) hB fun v' w' h5 h6 _ => ?_
  · rw [Addr.add_lit, Nat.zero_add, cell_of_row w g j cur _ _ h1]
    exact (key j u hu).1
  · obtain ⟨j, hj⟩ := List.mem_iff_getElem?.1 hu
    exact (key j u hj).2
  · refine h v' w' ⟨_, by simpa using h5, fun i hi j u hu => ?_⟩ (Off.ofOwn h6)
    have hj : j < 8 := by have := (List.getElem?_eq_some_iff.1 hu).1; rw [rl_len] at this; exact this
    rw [List.getElem?_take, if_pos (by omega)]
    simpa using h3 i hi j u hu
/-- A timer stored into its place. -/
theorem storeR (hgd : o.guard = none) (x y : Operand) (ho : o.op = .store 48 x y) {g n cap k : Nat} {t : Nat → Tm} {s : Tm} (hx : a.eval x = .pointer (some ⟨g, k * 8, none⟩)) (hy : a.eval y = .agg (rl s).toArray) (hR : RwAt w g n cap t) (hk : k < n)
    (h : ∀ w', RwAt w' g n cap (upd1 t k s) → Off (· = g) w w' → wpList Try.prog ops Q rest (a.put o.dst undef) w') : wpList Try.prog ops Q (o :: rest) a w := by
  obtain ⟨cur, h1, h2, h3⟩ := hR.row
  have hnc := hR.nc
  refine wpList_store_part hgd _ x y ho g (k * 8) hx (rl s) hy h1 iM (by rw [rl_len]; omega) (rl_one s) (h _ ?_ ?_)
  · refine ⟨⟨spliced cur (k * 8) (rl s), row_set _ h1, ?_, fun i hi j u hu => ?_⟩, hR.nc, hR.cm⟩
    · simp [spliced, rl_len]; omega
    · have hj : j < 8 := by have := (List.getElem?_eq_some_iff.1 hu).1; rw [rl_len] at this; exact this
      unfold spliced
      have hlen : (cur.toList.take (k * 8)).length = k * 8 := by simp; omega
      by_cases e : i = k
      · subst e
        rw [upd1_at] at hu
        rw [List.getElem?_toArray, List.append_assoc, List.getElem?_append_right (by omega), hlen, show i * 8 + j - i * 8 = j by omega, List.getElem?_append_left (by rw [rl_len]; exact hj)]
        exact hu
      · rw [upd1_ne _ _ e] at hu
        have h4 := h3 i hi j u hu
        rw [List.getElem?_toArray, List.append_assoc]
        by_cases c : i < k
        · rw [List.getElem?_append_left (by omega), List.getElem?_take, if_pos (by omega)]
          simpa using h4
        · rw [List.getElem?_append_right (by omega), hlen, List.getElem?_append_right (by rw [rl_len]; omega), rl_len, List.getElem?_drop, show k * 8 + 8 + (i * 8 + j - k * 8 - 8) = i * 8 + j by omega]
          simpa using h4
  · exact ⟨rfl, rfl, rfl, by simp, fun b _ hs => setRow_other w g b _ hs⟩
end
end Go.Proofs.Ytijjapmdkalfaaa.B
